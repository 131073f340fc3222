import PyProof.Rows.All
import Wide.All
import OpenK.AllK
import Wide.FinOn
import PyProof.EqAt
import PyProof.EqKinds
import PyProof.TupleCall
import KE.BitLaws
import Open.SpecLaws
import KE.OsHead
import KE.OsGo
import PySem.Challenge.RW_holecards_s01_answers
set_option Elab.async false
set_option linter.all false
set_option maxRecDepth 100000
namespace L2
open PySem PySem.Spec PyProof.Rows
abbrev Key := Sum Int Str
def keyIs : Key → Value → Bool
  | .inl k, v => Value.isInt k v
  | .inr x, v => Value.isStrOf x v
def keyH (w : World) : Key → Int
  | .inl k => hashInt k
  | .inr x => hashStr w x
theorem keyIs_shape : ∀ {k : Key} {v : Value}, keyIs k v = true → (∃ i t, k = Sum.inl i ∧ v = Value.int i t) ∨ (∃ x t, k = Sum.inr x ∧ v = Value.str x t)
  | .inl i, v, h => by
    obtain ⟨t, e⟩ := Value.isInt_shape (k := i) (v := v) h
    exact .inl ⟨i, t, rfl, e⟩
  | .inr x, v, h => by
    obtain ⟨t, e⟩ := Value.isStrOf_shape (x := x) (v := v) h
    exact .inr ⟨x, t, rfl, e⟩
theorem keyIs_int (i : Int) (t : Tok) : keyIs (.inl i) (.int i t) = true := by simp [keyIs, Value.isInt]
theorem keyIs_str (x : Str) (t : Tok) : keyIs (.inr x) (.str x t) = true := by simp [keyIs, Value.isStrOf]
theorem key_ll (a b : Int) : decide ((Sum.inl a : Key) = Sum.inl b) = (a == b) := by
  by_cases e : a = b
  · subst e; simp
  · have h : ¬ (Sum.inl a : Key) = Sum.inl b := fun q => e (Sum.inl.inj q)
    rw [decide_eq_false h]
    exact (beq_eq_false_iff_ne.mpr e).symm
theorem key_rr (a b : Str) : decide ((Sum.inr a : Key) = Sum.inr b) = decide (a = b) := by
  by_cases e : a = b
  · subst e; simp
  · have h : ¬ (Sum.inr a : Key) = Sum.inr b := fun q => e (Sum.inr.inj q)
    rw [decide_eq_false h, decide_eq_false e]
theorem key_lr (a : Int) (b : Str) : decide ((Sum.inl a : Key) = Sum.inr b) = false := decide_eq_false (fun q => nomatch q)
theorem key_rl (a : Str) (b : Int) : decide ((Sum.inr a : Key) = Sum.inl b) = false := decide_eq_false (fun q => nomatch q)
def mixKind (prog : Program) (w : World) : PySem.KeyKind prog w Key where
  is := keyIs
  hash := keyH w
  inj := fun v a b ha hb => by
    rcases keyIs_shape ha with ⟨i, t, rfl, rfl⟩ | ⟨x, t, rfl, rfl⟩
    · rcases keyIs_shape hb with ⟨j, u, rfl, e⟩ | ⟨y, u, rfl, e⟩
      · injection e with e1 _; rw [e1]
      · exact nomatch e
    · rcases keyIs_shape hb with ⟨j, u, rfl, e⟩ | ⟨y, u, rfl, e⟩
      · exact nomatch e
      · injection e with e1 _; rw [e1]
  byValue := fun k v h => by
    rcases keyIs_shape h with ⟨i, t, rfl, rfl⟩ | ⟨x, t, rfl, rfl⟩ <;> rfl
  pyHash := fun hv h => by
    rcases keyIs_shape hv with ⟨i, t, rfl, rfl⟩ | ⟨x, t, rfl, rfl⟩
    · exact wpAny_pyHash_int h
    · exact wpAny_pyHash_str h
  eqBool := fun hu hv h => by
    rcases keyIs_shape hu with ⟨i, t, rfl, rfl⟩ | ⟨x, t, rfl, rfl⟩
    · rcases keyIs_shape hv with ⟨j, u, rfl, rfl⟩ | ⟨y, u, rfl, rfl⟩
      · rw [key_ll] at h; exact wpAny_eqBool_int h
      · rw [key_lr] at h; exact SeqAt.EqAt.int_str i t y u _ _ _ _ h
    · rcases keyIs_shape hv with ⟨j, u, rfl, rfl⟩ | ⟨y, u, rfl, rfl⟩
      · rw [key_rl] at h; exact SeqAt.EqAt.str_int x t j u _ _ _ _ h
      · rw [key_rr] at h; exact wpAny_eqBool_str h
  «strs» := fun k x t v h => by
    rcases keyIs_shape h with ⟨i, u, rfl, e⟩ | ⟨y, u, rfl, e⟩
    · exact nomatch e
    · injection e with e1 _
      subst e1
      cases v <;> rfl
theorem mixKind_int (prog : Program) (w : World) (i : Int) (t : Tok) : (mixKind prog w).is (.inl i) (.int i t) = true := keyIs_int i t
theorem mixKind_str (prog : Program) (w : World) (x : Str) (t : Tok) : (mixKind prog w).is (.inr x) (.str x t) = true := keyIs_str x t
end L2
namespace L2
open PySem PySem.Spec PyProof.Rows
inductive V where
  | non | bl (b : Bool) | int (i : Int) | str (x : Str) | byt (b : Array UInt8) | flt (b : UInt64) | ref (a : Addr) | ty (n : String)
  deriving DecidableEq
def RelV : V → Value → Prop
  | .non, u => u = Value.none
  | .bl b, u => u = Value.bool b
  | .int i, u => ∃ t, u = Value.int i t
  | .str x, u => ∃ t, u = Value.str x t
  | .byt b, u => ∃ t, u = Value.bytes b t
  | .flt b, u => ∃ t, u = Value.float b t
  | .ref a, u => u = Value.ref a
  | .ty n, u => u = Value.type n
abbrev Vals : List V → List Value → Prop := Paired RelV
theorem Vals.length {xs : List V} {us : List Value} (r : Vals xs us) : xs.length = us.length := Paired.length r
theorem Vals.get : ∀ {xs : List V} {us : List Value} {i : Nat} {x : V}, Vals xs us → xs[i]? = some x → ∃ u, us[i]? = some u ∧ RelV x u
  | _, _, _, _, .nil, e => by simp at e
  | _, _, 0, _, .cons r _, e => by simp at e; subst e; exact ⟨_, rfl, r⟩
  | _, _, i + 1, x, .cons _ t, e => by
    obtain ⟨u, h1, h2⟩ := Vals.get (i := i) (x := x) t (by simpa using e)
    exact ⟨u, by simpa using h1, h2⟩
theorem Vals.set {x : V} {u : Value} (r : RelV x u) : ∀ {xs : List V} {us : List Value} (i : Nat), Vals xs us → Vals (xs.set i x) (us.set i u)
  | _, _, _, .nil => .nil
  | _, _, 0, .cons _ t => .cons r t
  | _, _, i + 1, .cons q t => .cons q (Vals.set r i t)
theorem Vals.append : ∀ {xs ys : List V} {us ws : List Value}, Vals xs us → Vals ys ws → Vals (xs ++ ys) (us ++ ws)
  | _, _, _, _, .nil, s => s
  | _, _, _, _, .cons r t, s => .cons r (Vals.append t s)
theorem Vals.take : ∀ {xs : List V} {us : List Value} (n : Nat), Vals xs us → Vals (xs.take n) (us.take n)
  | _, _, 0, _ => .nil
  | _, _, _ + 1, .nil => .nil
  | _, _, n + 1, .cons r t => .cons r (Vals.take n t)
theorem Vals.drop : ∀ {xs : List V} {us : List Value} (n : Nat), Vals xs us → Vals (xs.drop n) (us.drop n)
  | _, _, 0, r => r
  | _, _, _ + 1, .nil => .nil
  | _, _, n + 1, .cons _ t => Vals.drop n t
theorem Vals.none_of : ∀ {xs : List V} {us : List Value} {i : Nat}, Vals xs us → xs[i]? = none → us[i]? = none := fun {xs us i} r e => by
  have h1 := r.length
  have h2 : xs.length ≤ i := List.getElem?_eq_none_iff.mp e
  exact List.getElem?_eq_none_iff.mpr (by omega)
def RelO : Option V → Option Value → Prop
  | some v, some u => RelV v u
  | none, none => True
  | _, _ => False
def KV {κ : Type} : List (κ × V) → List (κ × Value) → Prop := Paired fun (p : κ × V) (q : κ × Value) => p.1 = q.1 ∧ RelV p.2 q.2
def kV : Key → V
  | .inl i => .int i
  | .inr x => .str x
inductive HO where
  | lst (xs : List V)
  | tup (xs : List V)
  | dK (kvs : List (Key × V)) | dT (kvs : List (List Key × V))
  | set (S : Int → Bool) (n : Nat)
  | ins (C dx : Addr) (fs : List (Str × V))
  | own (x : Addr)
  | xd (fs : List (Str × V))
  | met (f x : Addr)
  | rng (lo hi : Int)
  | frz (o : Obj) (u : HO)
  | tbl (ps : Array Value)
  | ext (φ : Heap → Prop)
abbrev Hp := Addr → Option HO
def upd (H : Hp) (a : Addr) (o : HO) : Hp := fun b => if b = a then some o else H b
theorem upd_same {H : Hp} {a : Addr} {o : HO} : upd H a o a = some o := by unfold upd; rw [if_pos rfl]
theorem upd_ne {H : Hp} {a b : Addr} {o : HO} (h : b ≠ a) : upd H a o b = H b := by unfold upd; rw [if_neg h]
theorem upd_upd {H : Hp} {a : Addr} {o u : HO} : upd (upd H a o) a u = upd H a u := by
  funext b; unfold upd; split <;> rfl
theorem ne_of {H : Hp} {a b : Addr} {o u : HO} (h : H a = some o) (h' : H b = some u) (d : o ≠ u) : a ≠ b := by
  intro e; subst e; rw [h] at h'; exact d (Option.some.inj h')
theorem ne_of_none {H : Hp} {a b : Addr} {o : HO} (h : H a = some o) (h' : H b = none) : a ≠ b := by
  intro e; subst e; rw [h] at h'; cases h'
section
variable (P : Program) (w : World)
def ObjOk (H : Hp) (h : Heap) (a : Addr) : HO → Prop
  | .lst xs => xs.length ≤ sizeLine ∧ ∃ (its : List Value) (n : Nat), Vals xs its ∧ h.get? a = some { cls := .type "list", data := .seq its.toArray n }
  | .tup xs => xs.length ≤ sizeLine ∧ ∃ its : List Value, Vals xs its ∧ IsTup h a its.toArray
  | .dK kvs => kvs.length ≤ sizeLine ∧ (a == sysModules) = false ∧ ∃ vs, KV kvs vs ∧ h.DictOf (mixKind P w) a vs
  | .dT kvs => kvs.length ≤ sizeLine ∧ (a == sysModules) = false ∧ ∃ xs : List (List Key × Addr × Value),
      Paired (fun (p : List Key × V) (q : List Key × Addr × Value) => p.1 = q.1 ∧ H q.2.1 = some (.tup (p.1.map kV)) ∧ RelV p.2 q.2.2) kvs xs ∧
      ∃ o es ep, h.get? a = some o ∧ o.ExactDict ∧ o.data = .dict es ep ∧ es.toList = xs.map (entryOfKey (tupleKind (mixKind P w))) ∧ (xs.map (·.1)).Nodup
  | .set S n => h.SetOf (intKind P w) a S n
  | .ins C dx fs => H dx = some (.own a) ∧ fs.length ≤ 1000 ∧ dx ≠ a ∧ h.get? a = some (PySem.W.instObj C dx) ∧
      ∃ mA, h.Ns1 dx mA ∧ (∀ f, RelO (fs.lookup f) (mA f)) ∧ PySem.Within mA (fs.map (·.1))
  | .own _ => ∃ o, h.get? a = some o
  | .xd fs => ∃ mA, h.Ns1 a mA ∧ ∀ f, RelO (fs.lookup f) (mA f)
  | .rng lo hi => ∃ t u v, h.get? a = some { cls := .type "range", data := .fields #[.int lo t, .int hi u, .int 1 v] }
  | .frz o u => h.get? a = some o ∧ ObjOk H h a u
  | .tbl ps => h.get? a = some { cls := .none, data := .fields ps }
  | .met f x => h.get? a = some (PySem.W.methodObj (.ref f) (.ref x))
  | .ext φ => φ h ∧ (∃ o, h.get? a = some o) ∧ ∀ h1 h2 : Heap, φ h1 → (∀ o, h1.get? a = some o → h2.get? a = some o) → φ h2
def HOk (H : Hp) (h : Heap) : Prop := ∀ a o, H a = some o → ObjOk P w H h a o
end
section
variable {P : Program} {w : World} {H H' : Hp} {h h' : Heap} {a : Addr} {o : HO}
theorem ObjOk.lt (x : ObjOk P w H h a o) : a < h.objs.size := by
  cases o with
  | lst xs => obtain ⟨_, _, _, _, e⟩ := x; exact Heap.lt_size e
  | tup xs => obtain ⟨_, _, _, p⟩ := x; exact p.lt
  | dK kvs => obtain ⟨_, _, _, _, o, _, _, e, _⟩ := x; exact Heap.lt_size e
  | dT kvs => obtain ⟨_, _, _, _, o, _, _, e, _⟩ := x; exact Heap.lt_size e
  | set S n => obtain ⟨o, _, _, _, e, _⟩ := x; exact Heap.lt_size e
  | ins C dx fs => obtain ⟨_, _, _, e, _⟩ := x; exact Heap.lt_size e
  | own y => obtain ⟨_, e⟩ := x; exact Heap.lt_size e
  | xd fs => obtain ⟨_, ⟨_, _, _, e, _⟩, _⟩ := x; exact Heap.lt_size e
  | rng lo hi => obtain ⟨_, _, _, e⟩ := x; exact Heap.lt_size e
  | frz ob u => obtain ⟨e, _⟩ := x; exact Heap.lt_size e
  | tbl ps => exact Heap.lt_size (show h.get? a = some _ from x)
  | met f y => exact Heap.lt_size (show h.get? a = some _ from x)
  | ext φ => obtain ⟨_, ⟨_, e⟩, _⟩ := x; exact Heap.lt_size e
theorem Paired.mapP {α β : Type} {F G : α → β → Prop} : ∀ {l₁ : List α} {l₂ : List β}, Paired F l₁ l₂ → (∀ a b, F a b → G a b) → Paired G l₁ l₂
  | _, _, .nil, _ => .nil
  | _, _, .cons r t, f => .cons (f _ _ r) (Paired.mapP t f)
theorem ObjOk.stay (x : ObjOk P w H h a o) (k : ∀ b u, (b = a ∨ H b = some (.own a)) → h.get? b = some u → h'.get? b = some u)
    (ho : ∀ b, H b = some (.own a) → H' b = some (.own a)) (ht : ∀ b xs, H b = some (.tup xs) → H' b = some (.tup xs)) : ObjOk P w H' h' a o := by
  induction o with
  | lst xs => obtain ⟨z, its, n, r, e⟩ := x; exact ⟨z, its, n, r, k _ _ (.inl rfl) e⟩
  | tup xs => obtain ⟨z, its, r, ob, e, c⟩ := x; exact ⟨z, its, r, ob, k _ _ (.inl rfl) e, c⟩
  | dK kvs => obtain ⟨z, y, vs, r, ob, es, ep, e, c⟩ := x; exact ⟨z, y, vs, r, ob, es, ep, k _ _ (.inl rfl) e, c⟩
  | dT kvs =>
    obtain ⟨z, y, xs, r, ob, es, ep, e, c⟩ := x
    exact ⟨z, y, xs, Paired.mapP r fun p q z => ⟨z.1, ht _ _ z.2.1, z.2.2⟩, ob, es, ep, k _ _ (.inl rfl) e, c⟩
  | set S n => obtain ⟨ob, es, ep, t, e, c⟩ := x; exact ⟨ob, es, ep, t, k _ _ (.inl rfl) e, c⟩
  | ins C dx fs =>
    obtain ⟨d, z, ne, e, mA, ⟨od, es, ep, e2, c⟩, r⟩ := x
    exact ⟨ho _ d, z, ne, k _ _ (.inl rfl) e, mA, ⟨od, es, ep, k _ _ (.inr d) e2, c⟩, r⟩
  | own y => obtain ⟨ob, e⟩ := x; exact ⟨ob, k _ _ (.inl rfl) e⟩
  | xd fs => obtain ⟨mA, ⟨od, es, ep, e, c⟩, r⟩ := x; exact ⟨mA, ⟨od, es, ep, k _ _ (.inl rfl) e, c⟩, r⟩
  | rng lo hi => obtain ⟨t, u, v, e⟩ := x; exact ⟨t, u, v, k _ _ (.inl rfl) e⟩
  | frz ob u ih => obtain ⟨e, q⟩ := x; exact ⟨k _ _ (.inl rfl) e, ih q⟩
  | tbl ps =>
    have e : h.get? a = some { cls := .none, data := .fields ps } := x
    show h'.get? a = some { cls := .none, data := .fields ps }
    exact k a _ (.inl rfl) e
  | met f y =>
    have e : h.get? a = some (PySem.W.methodObj (.ref f) (.ref y)) := x
    show h'.get? a = some (PySem.W.methodObj (.ref f) (.ref y))
    exact k a _ (.inl rfl) e
  | ext φ => obtain ⟨p, ⟨o, e⟩, st⟩ := x; exact ⟨st _ _ p fun o q => k _ _ (.inl rfl) q, ⟨o, k _ _ (.inl rfl) e⟩, st⟩
theorem HOk.lt (x : HOk P w H h) (e : H a = some o) : a < h.objs.size := (x a o e).lt
theorem HOk.fresh (x : HOk P w H h) (e : h.objs.size ≤ a) : H a = none := by
  cases q : H a with
  | none => rfl
  | some u => exact absurd (Nat.lt_of_lt_of_le (x.lt q) e) (Nat.lt_irrefl _)
theorem HOk.kept (x : HOk P w H h) (k : ∀ b u, h.get? b = some u → h'.get? b = some u) : HOk P w H h' := fun a o e =>
  (x a o e).stay (fun b u _ q => k b u q) (fun _ q => q) fun _ _ q => q
theorem HOk.laid (x : HOk P w H h) (k : ∀ b u, h.get? b = some u → h'.get? b = some u) (hp : h.objs.size ≤ a) (new : ObjOk P w (upd H a o) h' a o) : HOk P w (upd H a o) h' := fun b u e => by
  have hn := x.fresh hp
  by_cases hb : b = a
  · subst hb; rw [upd_same] at e; cases e; exact new
  · rw [upd_ne hb] at e
    exact (x b u e).stay (fun c v _ q => k c v q) (fun c q => by rw [upd_ne (ne_of_none q hn)]; exact q) fun c xs q => by rw [upd_ne (ne_of_none q hn)]; exact q
end
def Rd (H : Hp) (a : Addr) (u : HO) : Prop := H a = some u ∨ ∃ o, H a = some (.frz o u)
theorem Rd.of {H : Hp} {a : Addr} {u : HO} (h : H a = some u) : Rd H a u := .inl h
theorem Rd.ok {P : Program} {w : World} {H : Hp} {h : Heap} {a : Addr} {u : HO} (r : Rd H a u) (x : HOk P w H h) : ObjOk P w H h a u := by
  rcases r with r | ⟨o, r⟩
  · exact x a u r
  · obtain ⟨_, q⟩ := x a _ r
    exact q
def Mut : Option HO → Prop
  | some (.lst _) => True
  | some (.dK _) => True
  | some (.dT _) => True
  | some (.set _ _) => True
  | some (.ins _ _ _) => True
  | some (.ext _) => True
  | _ => False
section
variable {P : Program} {w : World} {H : Hp} {h h' : Heap} {x e : Addr} {o' : HO}
theorem HOk.write (ok : HOk P w H h) (mu : Mut (H x)) (he : e = x ∨ H e = some (.own x)) (k : ∀ b u, b ≠ e → h.get? b = some u → h'.get? b = some u) (heo : ∃ u, h'.get? e = some u)
    (new : ObjOk P w (upd H x o') h' x o') : HOk P w (upd H x o') h' := fun b u q => by
  have nown : ∀ c y, H c = some (.own y) → c ≠ x := fun c y r z => by subst z; rw [r] at mu; exact mu
  have ntup : ∀ c xs, H c = some (.tup xs) → c ≠ x := fun c xs r z => by subst z; rw [r] at mu; exact mu
  by_cases hb : b = x
  · subst hb; rw [upd_same] at q; cases q; exact new
  · rw [upd_ne hb] at q
    by_cases hbe : b = e
    · have q' : H b = some (.own x) := by
        rcases he with z | z
        · exact absurd (hbe.trans z) hb
        · rw [hbe]; exact z
      rw [q] at q'; cases q'
      obtain ⟨v, hv⟩ := heo
      exact ⟨v, by rw [hbe]; exact hv⟩
    · refine (ok b u q).stay (fun c v hc r => k c v ?_ r) (fun c r => by rw [upd_ne (nown c b r)]; exact r) fun c xs r => by rw [upd_ne (ntup c xs r)]; exact r
      rcases hc with rfl | hc
      · exact hbe
      · rintro rfl
        rcases he with z | z
        · exact nown c b hc z
        · rw [hc] at z; cases z; exact hb rfl
end
structure Un (fs ex : List Addr) (H H' : Hp) (h h' : Heap) : Prop where
  keep : ∀ b o, h.get? b = some o → H b = none → b ∉ fs → b ∉ ex → h'.get? b = some o
  slot : ∀ b o, h.get? b = some o → H b = none → b ∈ fs → b ∉ ex → ∃ sl, h'.get? b = some { o with slots := sl }
  free : ∀ b o, h.get? b = some o → H b = none → b ∉ ex → H' b = none
  there : ∀ b o, h.get? b = some o → b ∉ ex → ∃ o', h'.get? b = some o'
  tups : ∀ b xs, H b = some (.tup xs) → H' b = some (.tup xs)
  frzs : ∀ b o u, H b = some (.frz o u) → H' b = some (.frz o u)
  tbls : ∀ b ps, H b = some (.tbl ps) → ∃ more, H' b = some (.tbl (ps ++ more))
section
variable {fs fs' ex ex' : List Addr} {H H1 H2 : Hp} {h h1 h2 h' : Heap} {a x e : Addr} {o : HO}
theorem Un.any (u : Un fs ex H H1 h h1) {b : Addr} {ob : Obj} (q : h.get? b = some ob) (n : H b = none) (hx : b ∉ ex) : ∃ sl, h1.get? b = some { ob with slots := sl } := by
  by_cases hb : b ∈ fs
  · exact u.slot b ob q n hb hx
  · exact ⟨ob.slots, u.keep b ob q n hb hx⟩
theorem Un.trans (a : Un fs ex H H1 h h1) (b : Un fs ex H1 H2 h1 h2) : Un fs ex H H2 h h2 where
  keep := fun c ob q n hc hx => b.keep c ob (a.keep c ob q n hc hx) (a.free c ob q n hx) hc hx
  slot := fun c ob q n hc hx => by
    obtain ⟨sl, e1⟩ := a.slot c ob q n hc hx
    obtain ⟨sl', e2⟩ := b.slot c _ e1 (a.free c ob q n hx) hc hx
    exact ⟨sl', e2⟩
  free := fun c ob q n hx => by
    obtain ⟨o', e1⟩ := a.there c ob q hx
    exact b.free c o' e1 (a.free c ob q n hx) hx
  there := fun c ob q hx => by
    obtain ⟨o', e1⟩ := a.there c ob q hx
    exact b.there c o' e1 hx
  tups := fun c xs q => b.tups c xs (a.tups c xs q)
  frzs := fun c ob xs q => b.frzs c ob xs (a.frzs c ob xs q)
  tbls := fun c ps q => by
    obtain ⟨m1, e1⟩ := a.tbls c ps q
    obtain ⟨m2, e2⟩ := b.tbls c _ e1
    exact ⟨m1 ++ m2, by rw [e2, Array.append_assoc]⟩
theorem Un.kept (k : ∀ b u, h.get? b = some u → h'.get? b = some u) : Un fs ex H H h h' :=
  ⟨fun b ob q _ _ _ => k b ob q, fun b ob q _ _ _ => ⟨ob.slots, k b ob q⟩, fun _ _ _ n _ => n, fun b ob q _ => ⟨ob, k b ob q⟩, fun _ _ q => q, fun _ _ _ q => q, fun _ ps q => ⟨#[], by rw [q]; simp⟩⟩
theorem Un.refl : Un fs ex H H h h := Un.kept fun _ _ q => q
theorem Un.laid (k : ∀ b u, h.get? b = some u → h'.get? b = some u) (hp : h.objs.size ≤ a) (hn : H a = none) : Un fs ex H (upd H a o) h h' where
  keep := fun b u q _ _ _ => k b u q
  slot := fun b u q _ _ _ => ⟨u.slots, k b u q⟩
  free := fun b u q n _ => by rw [upd_ne (Nat.ne_of_lt (Nat.lt_of_lt_of_le (Heap.lt_size q) hp))]; exact n
  there := fun b u q _ => ⟨u, k b u q⟩
  tups := fun b xs q => by rw [upd_ne (ne_of_none q hn)]; exact q
  frzs := fun b u xs q => by rw [upd_ne (ne_of_none q hn)]; exact q
  tbls := fun b ps q => ⟨#[], by rw [upd_ne (ne_of_none q hn), q]; simp⟩
theorem Un.write (mu : Mut (H x)) (he : e = x ∨ H e = some (.own x)) (k : ∀ b u, b ≠ e → h.get? b = some u → h'.get? b = some u) (heo : ∃ u, h'.get? e = some u) : Un fs ex H (upd H x o) h h' := by
  have hx : ∀ b, H b = none → b ≠ x := fun b n z => by subst z; rw [n] at mu; exact mu
  have hb : ∀ b, H b = none → b ≠ e := fun b n z => by
    subst z
    rcases he with r | r
    · exact hx b n r
    · rw [n] at r; cases r
  have hm : ∀ b u, H b = some u → ¬ Mut (some u) → b ≠ x := fun b u q nm z => by subst z; rw [q] at mu; exact nm mu
  refine ⟨fun b u q n _ _ => k b u (hb b n) q, fun b u q n _ _ => ⟨u.slots, k b u (hb b n) q⟩, fun b u q n _ => by rw [upd_ne (hx b n)]; exact n, fun b u q _ => ?_,
    fun b xs q => by rw [upd_ne (hm b _ q fun z => z)]; exact q, fun b u xs q => by rw [upd_ne (hm b _ q fun z => z)]; exact q, fun b ps q => ⟨#[], by rw [upd_ne (hm b _ q fun z => z), q]; simp⟩⟩
  by_cases hbe : b = e
  · subst hbe; exact heo
  · exact ⟨u, k b u hbe q⟩
theorem Un.mono (u : Un fs ex H H1 h h1) (hs : ∀ b ∈ fs, b ∈ fs') (hx : ∀ b ∈ ex, b ∈ ex') : Un fs' ex' H H1 h h1 :=
  ⟨fun b ob q n hb he => u.keep b ob q n (fun z => hb (hs b z)) fun z => he (hx b z), fun _ _ q n _ he => u.any q n fun z => he (hx _ z), fun b ob q n he => u.free b ob q n fun z => he (hx b z), fun b ob q he => u.there b ob q fun z => he (hx b z), u.tups, u.frzs, u.tbls⟩
end
def trk (h : Heap) (H : Hp) : List Addr := (List.range h.objs.size).filter fun a => (H a).isSome
def hidT (h : Heap) (H : Hp) : Heap := PySem.W.hideAll h (trk h H)
theorem hidT_size (h : Heap) (H : Hp) : (hidT h H).objs.size = h.objs.size := PySem.W.hideAll_size _ _
theorem hidT_get {h : Heap} {H : Hp} {b : Addr} {o : Obj} (e : h.get? b = some o) (n : H b = none) : (hidT h H).get? b = some o :=
  PySem.W.hideAll_get _ e fun hm => by
    have q : (H b).isSome = true := (List.mem_filter.mp hm).2
    rw [n] at q; simp at q
theorem of_hidT {h : Heap} {H : Hp} {b : Addr} {o : Obj} (e : (hidT h H).get? b = some o) : h.get? b = some o ∧ H b = none := by
  have e' : h.get? b = some o := PySem.W.of_hideAll (trk h H) e
  refine ⟨e', ?_⟩
  cases q : H b with
  | none => rfl
  | some x =>
    have hm : b ∈ trk h H := List.mem_filter.mpr ⟨List.mem_range.mpr (Heap.lt_size e'), by simp [q]⟩
    have z : (hidT h H).get? b = none := PySem.W.hideAll_none (trk h H) hm
    rw [z] at e; cases e
def allNews (g h : Heap) (L : Addr) : List (Addr × Obj) := (List.range h.objs.size).filterMap fun a => if a = L ∨ (g.get? a).isSome = true then none else (h.get? a).map fun o => (a, o)
def rest (g h : Heap) (L d : Addr) : List (Addr × Obj) := (allNews g h L).filter fun p => decide (p.1 ≠ d)
end L2
namespace L2
open PySem PySem.Spec PyProof.Rows
structure Mod (K : PySem.W.Frag) (mg : Str → Option Value) (base : Heap) : Prop where
  kin : K.In base
  glob : base.Ns mainGlobals mg
  blt : ∃ mb, base.Ns builtinsNs mb ∧ ∀ x : Str, x ≠ "__name__" → mb x = bootBuiltins x
  nolimit : base.NoLimit
/-- the context: a def's body (or a comprehension's block) running. base: fixed through the whole law; s₀, H₀: the entry; outer: the frames whose slots others may change (a def's callers); stack: all frames that run;
   ex: iterators that were made ahead of the entry and are walked here (a comprehension's); fn: the names whose cells were made at the entry (a def: all; a comprehension's block: its own); calm: not within an except suite; pn: pins that every state bears; xe: what is wanted of an exception that leaves the code -/
structure Cx where
  prog : Program
  w : World
  K : PySem.W.Frag
  mg : Str → Option Value
  base : Heap
  A : Around
  N : List Str
  s_0 : Shared
  H_0 : Hp
  env : Env
  outer : List Env
  stack : List Env
  ex : List Addr
  fn : Str → Bool
  calm : Bool
  pn : List (Addr × Obj)
  xe : Value → Shared → Prop
def frs (l : List Env) : List Addr := l.filterMap (·.frame)
abbrev Cx.fs (X : Cx) : List Addr := frs X.outer
def Vis (sc : Scope) (x : Str) : Prop := sc.names.lookup x = some .local ∨ sc.names.lookup x = some .cell ∨ sc.names.lookup x = some .free
def Loc (sc : Scope) (x : Str) : Prop := sc.names.lookup x = some .local ∨ sc.names.lookup x = some .cell
def Look (env : Env) (h : Heap) (m : Str → Option Value) (x : Str) (u : Value) : Prop :=
  (env.kindOf x = some .local ∧ m x = some u) ∨ ((env.kindOf x = some .cell ∨ env.kindOf x = some .free) ∧ ∃ c, env.cells.lookup x = some c ∧ h.IsCell c (some u))
structure Cx.Ok (X : Cx) : Prop where
  mod : Mod X.K X.mg X.base
  kind : X.env.scope.kind = .function
  glob : X.env.globals = mainGlobals
  blt : X.env.builtins = builtinsNs
  above : X.s_0.heap.objs.size ≤ X.env.locals
  inj : ∀ x y c, X.env.cells.lookup x = some c → X.env.cells.lookup y = some c → x = y
  has : ∀ x, (X.env.kindOf x = some .cell ∨ X.env.kindOf x = some .free) → ∃ c, X.env.cells.lookup x = some c
  cab : ∀ x c, X.fn x = true → X.env.cells.lookup x = some c → X.s_0.heap.objs.size ≤ c
  hd : X.calm = true → X.A.handled = none
  frames : X.A.frames = some X.stack
  stk : X.stack = X.outer ∨ (X.stack = X.env :: X.outer ∧ X.env.frame = some X.env.locals)
  exf : ∀ b ∈ X.ex, b ≠ X.env.locals ∧ ∀ x c, X.env.cells.lookup x = some c → c ≠ b
  bs : ∀ b o, X.base.get? b = some o → X.s_0.heap.get? b = some o ∧ X.H_0 b = none
  bsz : X.base.objs.size ≤ X.s_0.heap.objs.size
  noex : ∀ b o, X.base.get? b = some o → b ∉ X.ex
  exfs : ∀ b ∈ X.ex, b ∉ X.fs
  funs : X.s_0.heap.FunFrames X.base X.outer
  frf : ∀ b ∈ X.fs, X.H_0 b = none
structure Inv (X : Cx) (pins : List (Addr × Obj)) (σ : List (Option V)) (H : Hp) (s : Shared) : Prop where
  ok : X.Ok
  os : s.os = X.s_0.os
  bare : AllBare s.gens
  base : Un X.fs X.ex X.H_0 H X.s_0.heap s.heap
  loc : ∃ m, s.heap.Ns X.env.locals m ∧ ∀ (i : Nat) (x : Str) (v : V), X.N[i]? = some x → σ[i]? = some (some v) → Vis X.env.scope x → ∃ u, RelV v u ∧ Look X.env s.heap m x u
  cell : ∀ x c, X.env.cells.lookup x = some c → ∃ v, s.heap.IsCell c v
  free : H X.env.locals = none
  freeC : ∀ x c, X.env.cells.lookup x = some c → H c = none
  pin : ∀ p ∈ X.pn ++ pins, s.heap.get? p.1 = some p.2 ∧ H p.1 = none ∧ p.1 ≠ X.env.locals ∧ p.1 ∉ X.fs ∧ ∀ v, p.2.data ≠ .cell v
  hok : HOk X.prog X.w H s.heap
  len : σ.length = X.N.length
section
variable {X : Cx} {pins : List (Addr × Obj)} {σ : List (Option V)} {H H' : Hp} {s : Shared} {h' : Heap}
theorem Cx.Ok.nofr (ok : X.Ok) {b : Addr} {o : Obj} (e : X.base.get? b = some o) : b ∉ X.fs := fun hb => by
  have := (ok.funs.mem hb).1
  rw [e] at this; cases this
theorem Inv.bs (I : Inv X pins σ H s) : ∀ b o, X.base.get? b = some o → s.heap.get? b = some o ∧ H b = none := fun b o e =>
  ⟨I.base.keep b o (I.ok.bs b o e).1 (I.ok.bs b o e).2 (I.ok.nofr e) (I.ok.noex b o e), I.base.free b o (I.ok.bs b o e).1 (I.ok.bs b o e).2 (I.ok.noex b o e)⟩
theorem Inv.bk (I : Inv X pins σ H s) : ∀ b o, X.base.get? b = some o → s.heap.get? b = some o := fun b o e => (I.bs b o e).1
theorem Inv.mod (I : Inv X pins σ H s) : Mod X.K X.mg X.base := I.ok.mod
theorem Inv.kIn (I : Inv X pins σ H s) : X.K.In s.heap := I.ok.mod.kin.keeps I.bk
theorem Inv.nolimit (I : Inv X pins σ H s) : s.heap.NoLimit := I.ok.mod.nolimit.keeps I.bk
theorem Inv.lt (I : Inv X pins σ H s) : X.env.locals < s.heap.objs.size := let ⟨_, hn, _⟩ := I.loc; hn.lt
theorem Inv.sz (I : Inv X pins σ H s) : X.s_0.heap.objs.size ≤ s.heap.objs.size := Nat.le_trans I.ok.above (Nat.le_of_lt I.lt)
theorem Inv.nofs (I : Inv X pins σ H s) {a : Addr} (h : s.heap.objs.size ≤ a) : a ∉ X.fs := fun hb => by
  obtain ⟨_, o, ho, _⟩ := I.ok.funs.mem hb
  exact absurd (Nat.lt_of_lt_of_le (Heap.lt_size ho) (Nat.le_trans I.sz h)) (Nat.lt_irrefl _)
theorem Inv.cne (I : Inv X pins σ H s) : ∀ x c, X.env.cells.lookup x = some c → c ≠ X.env.locals := fun x c e z => by
  obtain ⟨v, o, ho, hd⟩ := I.cell x c e
  obtain ⟨m, ⟨o', es, ep, ho', hd', _⟩, _⟩ := I.loc
  rw [z, ho'] at ho; cases ho; rw [hd'] at hd; cases hd
theorem Inv.funs (I : Inv X pins σ H s) : s.heap.FunFrames X.base X.outer := by
  have all : ∀ (l : List Env), (∀ b ∈ frs l, b ∈ X.fs) → X.s_0.heap.FunFrames X.base l → s.heap.FunFrames X.base l := by
    intro l
    induction l with
    | nil => intro _ _; trivial
    | cons env r ih =>
      intro hs hl
      obtain ⟨hk, ⟨L, o, hf, hn, ho, hd⟩, hr⟩ := hl
      have hL : L ∈ X.fs := hs L (by unfold frs; rw [List.filterMap_cons, hf]; exact List.mem_cons_self)
      obtain ⟨sl, e⟩ := I.base.slot L o ho (I.ok.frf L hL) hL fun z => I.ok.exfs L z hL
      exact ⟨hk, ⟨L, _, hf, hn, e, hd⟩, ih (fun b hb => hs b (by unfold frs; rw [List.filterMap_cons, hf]; exact List.mem_cons_of_mem _ hb)) hr⟩
  exact all X.outer (fun _ hb => hb) I.ok.funs
theorem Inv.stack (I : Inv X pins σ H s) : s.heap.FunFrames X.base X.stack := by
  rcases I.ok.stk with e | ⟨e, hf⟩
  · rw [e]; exact I.funs
  · rw [e]
    obtain ⟨m, hn, _⟩ := I.loc
    refine .cons (by rw [I.ok.kind]; decide) hf hn ?_ I.funs
    exact Heap.get?_none_of_le (Nat.le_trans I.ok.bsz I.ok.above)
theorem Inv.stkSub (I : Inv X pins σ H s) : ∀ b ∈ frs X.stack, b ∈ X.env.locals :: X.fs := fun b hb => by
  rcases I.ok.stk with e | ⟨e, hf⟩
  · rw [e] at hb; exact List.mem_cons_of_mem _ hb
  · rw [e] at hb
    unfold frs at hb
    rw [List.filterMap_cons, hf] at hb
    exact hb
theorem Inv.stkFree (I : Inv X pins σ H s) : ∀ b ∈ frs X.stack, H b = none := fun b hb => by
  rcases List.mem_cons.mp (I.stkSub b hb) with e | hb
  · rw [e]; exact I.free
  · obtain ⟨_, o, ho, _⟩ := I.ok.funs.mem hb
    exact I.base.free b o ho (I.ok.frf b hb) fun z => I.ok.exfs b z hb
theorem Inv.step {g' : Array GenState} {t' : Nat} {d' : Drawn} {ch : List Addr} (I : Inv X pins σ H s)
    (hch : ∀ b ∈ ch, (b ∈ X.ex ∨ X.s_0.heap.objs.size ≤ b) ∧ b ≠ X.env.locals ∧ (∀ x c, X.env.cells.lookup x = some c → c ≠ b) ∧ ∀ p ∈ X.pn ++ pins, p.1 ≠ b)
    (keep : ∀ b o, b ≠ X.env.locals → b ∉ X.fs → b ∉ ch → s.heap.get? b = some o → H b = none → h'.get? b = some o)
    (slot : ∀ b o, b ≠ X.env.locals → b ∈ X.fs → b ∉ ch → s.heap.get? b = some o → H b = none → ∃ sl, h'.get? b = some { o with slots := sl }) (free : ∀ b o, b ∉ ch → s.heap.get? b = some o → H b = none → H' b = none)
    (there : ∀ b o, b ∉ ch → s.heap.get? b = some o → ∃ o', h'.get? b = some o')
    (tups : ∀ b xs, H b = some (.tup xs) → H' b = some (.tup xs)) (frzs : ∀ b o u, H b = some (.frz o u) → H' b = some (.frz o u)) (tbls : ∀ b ps, H b = some (.tbl ps) → ∃ more, H' b = some (.tbl (ps ++ more)))
    (ns : ∀ m, s.heap.Ns X.env.locals m → h'.Ns X.env.locals m) (hok : HOk X.prog X.w H' h') (hg : AllBare g') :
    Inv X pins σ H' { s with heap := h', gens := g', drawn := d', toks := t' } := by
  have neL : ∀ b o, X.s_0.heap.get? b = some o → b ≠ X.env.locals := fun b o e => Nat.ne_of_lt (Nat.lt_of_lt_of_le (Heap.lt_size e) I.ok.above)
  have neC : ∀ b o, X.s_0.heap.get? b = some o → b ∉ X.ex → b ∉ ch := fun b o e hx hb => by
    rcases (hch b hb).1 with z | z
    · exact hx z
    · exact absurd (Nat.lt_of_lt_of_le (Heap.lt_size e) z) (Nat.lt_irrefl _)
  have cellK : ∀ x c, X.env.cells.lookup x = some c → ∀ v, s.heap.IsCell c v → h'.IsCell c v := fun x c e v ⟨o, ho, hd⟩ => by
    have nch : c ∉ ch := fun z => (hch c z).2.2.1 x c e rfl
    by_cases hc : c ∈ X.fs
    · obtain ⟨sl, q⟩ := slot c o (I.cne x c e) hc nch ho (I.freeC x c e)
      exact ⟨_, q, hd⟩
    · exact ⟨o, keep c o (I.cne x c e) hc nch ho (I.freeC x c e), hd⟩
  refine ⟨I.ok, I.os, hg, ⟨fun b o e n hb hx => ?_, fun b o e n hb hx => ?_, fun b o e n hx => ?_, fun b o e hx => ?_, fun b xs e => tups b xs (I.base.tups b xs e), fun b o xs e => frzs b o xs (I.base.frzs b o xs e), fun b ps e => ?_⟩, ?_, fun x c e => ?_, ?_, fun x c e => ?_, fun p hp => ?_, hok, I.len⟩
  · exact keep b o (neL b o e) hb (neC b o e hx) (I.base.keep b o e n hb hx) (I.base.free b o e n hx)
  · obtain ⟨sl, e1⟩ := I.base.slot b o e n hb hx
    obtain ⟨sl', e2⟩ := slot b _ (neL b o e) hb (neC b o e hx) e1 (I.base.free b o e n hx)
    exact ⟨sl', e2⟩
  · obtain ⟨o', e1⟩ := I.base.there b o e hx
    exact free b o' (neC b o e hx) e1 (I.base.free b o e n hx)
  · obtain ⟨o', e1⟩ := I.base.there b o e hx
    exact there b o' (neC b o e hx) e1
  · obtain ⟨m1, e1⟩ := I.base.tbls b ps e
    obtain ⟨m2, e2⟩ := tbls b _ e1
    exact ⟨m1 ++ m2, by rw [e2, Array.append_assoc]⟩
  · obtain ⟨m, hn, hl⟩ := I.loc
    refine ⟨m, ns m hn, fun i x v e1 e2 e3 => ?_⟩
    obtain ⟨u, r, l⟩ := hl i x v e1 e2 e3
    refine ⟨u, r, ?_⟩
    rcases l with l | ⟨k, c, e, z⟩
    · exact .inl l
    · exact .inr ⟨k, c, e, cellK x c e _ z⟩
  · obtain ⟨v, z⟩ := I.cell x c e
    exact ⟨v, cellK x c e v z⟩
  · obtain ⟨m, ⟨o, _, _, ho, _⟩, _⟩ := I.loc
    exact free _ o (fun z => (hch _ z).2.1 rfl) ho I.free
  · obtain ⟨v, o, ho, hd⟩ := I.cell x c e
    exact free c o (fun z => (hch c z).2.2.1 x c e rfl) ho (I.freeC x c e)
  · obtain ⟨e, n, ne, nf, d⟩ := I.pin p hp
    have nch : p.1 ∉ ch := fun z => (hch p.1 z).2.2.2 p hp rfl
    exact ⟨keep p.1 p.2 ne nf nch e n, free p.1 p.2 nch e n, ne, nf, d⟩
theorem Inv.un {t' : Nat} (I : Inv X pins σ H s) (u : Un X.fs [] H H' s.heap h') (hok : HOk X.prog X.w H' h') : Inv X pins σ H' { s with heap := h', toks := t' } := by
  obtain ⟨m, ⟨o, es, ep, ho, r⟩, _⟩ := id I.loc
  obtain ⟨sl, hL⟩ := u.any ho I.free (by simp)
  exact I.step (g' := s.gens) (d' := s.drawn) (ch := []) (fun _ z => nomatch z) (fun b o _ hb _ e n => u.keep b o e n hb (by simp)) (fun b o _ hb _ e n => u.slot b o e n hb (by simp)) (fun b o _ e n => u.free b o e n (by simp)) (fun b o _ e => u.there b o e (by simp)) u.tups u.frzs u.tbls (fun m' hm => by
    obtain ⟨o', es', ep', ho', r'⟩ := hm
    rw [ho] at ho'; cases ho'
    exact ⟨_, es', ep', hL, r'⟩) hok I.bare
theorem Inv.call {g' : Array GenState} {t' : Nat} {d' : Drawn} {ch : List Addr} (I : Inv X pins σ H s) (u : Un (frs X.stack) ch H H' s.heap h') (hok : HOk X.prog X.w H' h') (hg : AllBare g')
    (hch : ∀ b ∈ ch, (b ∈ X.ex ∨ X.s_0.heap.objs.size ≤ b) ∧ b ≠ X.env.locals ∧ (∀ x c, X.env.cells.lookup x = some c → c ≠ b) ∧ ∀ p ∈ X.pn ++ pins, p.1 ≠ b) :
    Inv X pins σ H' { s with heap := h', gens := g', drawn := d', toks := t' } := by
  obtain ⟨m, ⟨o, es, ep, ho, r⟩, _⟩ := id I.loc
  obtain ⟨sl, hL⟩ := u.any ho I.free fun z => (hch _ z).2.1 rfl
  exact I.step (ch := ch) hch (fun b o hL hb hc e n => u.keep b o e n (fun z => (List.mem_cons.mp (I.stkSub b z)).elim hL hb) hc) (fun b o _ _ hc e n => u.any e n hc) (fun b o hc e n => u.free b o e n hc) (fun b o hc e => u.there b o e hc) u.tups u.frzs u.tbls (fun m' hm => by
    obtain ⟨o', es', ep', ho', r'⟩ := hm
    rw [ho] at ho'; cases ho'
    exact ⟨_, es', ep', hL, r'⟩) hok hg
theorem Inv.turned {t' : Nat} {it : Addr} (I : Inv X pins σ H s) (k : ∀ b o, b ≠ it → s.heap.get? b = some o → h'.get? b = some o) (hn : H it = none) (hL : it ≠ X.env.locals)
    (h1 : it ∈ X.ex ∨ X.s_0.heap.objs.size ≤ it) (h2 : ∀ x c, X.env.cells.lookup x = some c → c ≠ it) (h3 : ∀ p ∈ X.pn ++ pins, p.1 ≠ it) : Inv X pins σ H { s with heap := h', toks := t' } := by
  have nit : ∀ b u, H b = some u → b ≠ it := fun b u e z => by rw [z, hn] at e; cases e
  refine I.step (g' := s.gens) (d' := s.drawn) (ch := [it]) (fun b hb => ?_) (fun b o _ _ hc e _ => k b o (fun z => hc (by simp [z])) e) (fun b o _ _ hc e _ => ⟨o.slots, k b o (fun z => hc (by simp [z])) e⟩) (fun _ _ _ _ n => n)
    (fun b o hc e => ⟨o, k b o (fun z => hc (by simp [z])) e⟩) (fun _ _ e => e) (fun _ _ _ e => e) (fun b ps e => ⟨#[], by rw [e]; simp⟩) (fun m hm => ?_) (fun b u e => ?_) I.bare
  · have e : b = it := by simpa using hb
    subst e
    exact ⟨h1, hL, h2, h3⟩
  · obtain ⟨o, es, ep, ho, r⟩ := hm
    exact ⟨o, es, ep, k _ o (Ne.symm hL) ho, r⟩
  · refine (I.hok b u e).stay (fun c v hc q => k c v ?_ q) (fun _ q => q) fun _ _ q => q
    rcases hc with z | z
    · rw [z]; exact nit b u e
    · exact nit c _ z
theorem Inv.tok (I : Inv X pins σ H s) (t : Nat) : Inv X pins σ H { s with toks := t } := I.un (h' := s.heap) (t' := t) Un.refl I.hok
theorem Inv.kept {t' : Nat} (I : Inv X pins σ H s) (k : ∀ b u, s.heap.get? b = some u → h'.get? b = some u) : Inv X pins σ H { s with heap := h', toks := t' } := I.un (Un.kept k) (I.hok.kept k)
theorem Inv.laid {a : Addr} {o : HO} {t' : Nat} (I : Inv X pins σ H s) (k : ∀ b u, s.heap.get? b = some u → h'.get? b = some u) (hp : s.heap.objs.size ≤ a) (new : ObjOk X.prog X.w (upd H a o) h' a o) :
    Inv X pins σ (upd H a o) { s with heap := h', toks := t' } := I.un (Un.laid k hp (I.hok.fresh hp)) (I.hok.laid k hp new)
theorem Inv.write {x e : Addr} {o : HO} {t' : Nat} (I : Inv X pins σ H s) (mu : Mut (H x)) (he : e = x ∨ H e = some (.own x)) (k : ∀ b u, b ≠ e → s.heap.get? b = some u → h'.get? b = some u) (heo : ∃ u, h'.get? e = some u)
    (new : ObjOk X.prog X.w (upd H x o) h' x o) : Inv X pins σ (upd H x o) { s with heap := h', toks := t' } := I.un (Un.write mu he k heo) (I.hok.write mu he k heo new)
theorem Inv.weak {σ' : List (Option V)} (I : Inv X pins σ H s) (hl : σ'.length = σ.length) (w : ∀ (i : Nat) v, σ'[i]? = some (some v) → σ[i]? = some (some v)) : Inv X pins σ' H s :=
  ⟨I.ok, I.os, I.bare, I.base, let ⟨m, hn, hl'⟩ := I.loc; ⟨m, hn, fun i x v e1 e2 e3 => hl' i x v e1 (w i v e2) e3⟩, I.cell, I.free, I.freeC, I.pin, I.hok, hl.trans I.len⟩
theorem Inv.pins_of {pins' : List (Addr × Obj)} (I : Inv X pins σ H s) (h : ∀ p ∈ pins', s.heap.get? p.1 = some p.2 ∧ H p.1 = none ∧ p.1 ≠ X.env.locals ∧ p.1 ∉ X.fs ∧ ∀ v, p.2.data ≠ .cell v) : Inv X pins' σ H s :=
  ⟨I.ok, I.os, I.bare, I.base, I.loc, I.cell, I.free, I.freeC, fun p hp => (List.mem_append.mp hp).elim (fun z => I.pin p (List.mem_append_left _ z)) (h p), I.hok, I.len⟩
theorem nodup_ix {N : List Str} (hN : N.Nodup) {i j : Nat} {x : Str} (a : N[i]? = some x) (b : N[j]? = some x) : i = j := by
  obtain ⟨h1, e1⟩ := List.getElem?_eq_some_iff.mp a
  obtain ⟨h2, e2⟩ := List.getElem?_eq_some_iff.mp b
  exact (List.getElem_inj hN).mp (e1.trans e2.symm)
theorem store_ok2 {M : Model} {A : Around} {E : Value → Shared → Prop} {i : Nat} {x : Str} {v : V} {u : Value} {Q : Unit → Shared → Prop} (I : Inv X pins σ H s) (hN : X.N.Nodup) (hi : X.N[i]? = some x) (hx : Loc X.env.scope x) (r : RelV v u)
    (h : ∀ s', Inv X pins (σ.set i (some v)) H s' → (∃ a, Heap.SameBut a s.heap s'.heap ∧ (a = X.env.locals ∨ X.env.cells.lookup x = some a)) → Q () s') (hf : X.fn x = true ∨ X.env.scope.names.lookup x = some .local := by first | exact .inl rfl | exact .inr rfl | assumption) : wpAny M A (storeName X.env x u) Q E s := by
  obtain ⟨m, hn, hl⟩ := id I.loc
  have hcls : (X.env.scope.kind == .class || (X.env.scope.kind == .module && X.env.locals != X.env.globals)) = false := by rw [I.ok.kind]; rfl
  have hiσ : i < σ.length := by rw [I.len]; exact (List.getElem?_eq_some_iff.mp hi).1
  have cne := I.cne
  have tracked : ∀ {a : Addr} {h' : Heap}, (∃ o, s.heap.get? a = some o ∧ H a = none) → Heap.SameBut a s.heap h' → HOk X.prog X.w H h' := fun {a h'} ha hs b ob e => by
    obtain ⟨_, _, hfree⟩ := ha
    refine (I.hok b ob e).stay (fun c w' hc q => (hs.2 c ?_).trans q) (fun _ q => q) fun _ _ q => q
    rintro rfl
    rcases hc with rfl | hc
    · rw [hfree] at e; cases e
    · rw [hfree] at hc; cases hc
  rcases hx with hk | hk
  · refine wpAny_storeName_local hk hn (fun h' hn' hs => ?_) hcls
    obtain ⟨oL, _, _, hoL, _⟩ := id hn
    refine h _ ⟨I.ok, I.os, I.bare, ⟨fun b o e n hb hx => ?_, fun b o e n hb hx => ?_, I.base.free, fun b o e hx => ?_, I.base.tups, I.base.frzs, I.base.tbls⟩, ⟨_, hn', fun j y v' e1 e2 e3 => ?_⟩, fun y c e => ?_, I.free, I.freeC, fun p hp => ?_, tracked ⟨oL, hoL, I.free⟩ hs, by simpa using I.len⟩ ⟨_, hs, .inl rfl⟩
    · exact (hs.2 b (Nat.ne_of_lt (Nat.lt_of_lt_of_le (Heap.lt_size e) I.ok.above))).trans (I.base.keep b o e n hb hx)
    · obtain ⟨sl, e1⟩ := I.base.slot b o e n hb hx
      exact ⟨sl, (hs.2 b (Nat.ne_of_lt (Nat.lt_of_lt_of_le (Heap.lt_size e) I.ok.above))).trans e1⟩
    · obtain ⟨o', e1⟩ := I.base.there b o e hx
      exact ⟨o', (hs.2 b (Nat.ne_of_lt (Nat.lt_of_lt_of_le (Heap.lt_size e) I.ok.above))).trans e1⟩
    · by_cases hj : j = i
      · subst hj
        rw [hi] at e1; cases e1
        rw [List.getElem?_set_self hiσ] at e2
        cases e2
        exact ⟨u, r, .inl ⟨hk, by simp⟩⟩
      · rw [List.getElem?_set_ne (Ne.symm hj)] at e2
        obtain ⟨u', r', q⟩ := hl j y v' e1 e2 e3
        refine ⟨u', r', ?_⟩
        rcases q with ⟨k, e⟩ | ⟨k, c, e, z⟩
        · refine .inl ⟨k, ?_⟩
          have : y ≠ x := fun e => hj (nodup_ix hN e1 (e ▸ hi))
          simp [this, e]
        · exact .inr ⟨k, c, e, z.sameBut hs (cne y c e)⟩
    · obtain ⟨w', z⟩ := I.cell y c e
      exact ⟨w', z.sameBut hs (cne y c e)⟩
    · obtain ⟨e, n, ne, nf, d⟩ := I.pin p hp
      exact ⟨(hs.2 p.1 ne).trans e, n, ne, nf, d⟩
  · have hfn : X.fn x = true := by
      rcases hf with z | z
      · exact z
      · rw [z] at hk; cases hk
    obtain ⟨c, hc⟩ := I.ok.has x (.inl hk)
    obtain ⟨w', z⟩ := I.cell x c hc
    refine wpAny_storeName_cell I.ok.kind hk hc z (fun h' hc' hs => ?_)
    obtain ⟨oc, hoc, hocd⟩ := id z
    refine h { s with heap := h' } ⟨I.ok, I.os, I.bare, ⟨fun b o e n hb hx => ?_, fun b o e n hb hx => ?_, I.base.free, fun b o e hx => ?_, I.base.tups, I.base.frzs, I.base.tbls⟩, ⟨m, hn.sameBut hs (Ne.symm (cne x c hc)), fun j y v' e1 e2 e3 => ?_⟩, fun y c' e => ?_, I.free, I.freeC, fun p hp => ?_, tracked ⟨oc, hoc, I.freeC x c hc⟩ hs, by simpa using I.len⟩ ⟨c, hs, .inr hc⟩
    · exact (hs.2 b (Nat.ne_of_lt (Nat.lt_of_lt_of_le (Heap.lt_size e) (I.ok.cab x c hfn hc)))).trans (I.base.keep b o e n hb hx)
    · obtain ⟨sl, e1⟩ := I.base.slot b o e n hb hx
      exact ⟨sl, (hs.2 b (Nat.ne_of_lt (Nat.lt_of_lt_of_le (Heap.lt_size e) (I.ok.cab x c hfn hc)))).trans e1⟩
    · obtain ⟨o', e1⟩ := I.base.there b o e hx
      exact ⟨o', (hs.2 b (Nat.ne_of_lt (Nat.lt_of_lt_of_le (Heap.lt_size e) (I.ok.cab x c hfn hc)))).trans e1⟩
    · by_cases hj : j = i
      · subst hj
        rw [hi] at e1; cases e1
        rw [List.getElem?_set_self hiσ] at e2
        cases e2
        exact ⟨u, r, .inr ⟨.inl hk, c, hc, hc'⟩⟩
      · rw [List.getElem?_set_ne (Ne.symm hj)] at e2
        obtain ⟨u', r', q⟩ := hl j y v' e1 e2 e3
        refine ⟨u', r', ?_⟩
        rcases q with q | ⟨k, c', e, z'⟩
        · exact .inl q
        · refine .inr ⟨k, c', e, z'.sameBut hs ?_⟩
          rintro rfl
          exact hj (nodup_ix hN e1 (I.ok.inj _ _ _ e hc ▸ hi))
    · by_cases hcc : c' = c
      · subst hcc; exact ⟨_, hc'⟩
      · obtain ⟨w2, z2⟩ := I.cell y c' e
        exact ⟨w2, z2.sameBut hs hcc⟩
    · obtain ⟨e, n, ne, nf, d⟩ := I.pin p hp
      refine ⟨(hs.2 p.1 ?_).trans e, n, ne, nf, d⟩
      intro q
      rw [q, hoc] at e
      have q' : oc = p.2 := Option.some.inj e
      exact d w' (by rw [← q']; exact hocd)
theorem store_ok {M : Model} {A : Around} {E : Value → Shared → Prop} {i : Nat} {x : Str} {v : V} {u : Value} {Q : Unit → Shared → Prop} (I : Inv X pins σ H s) (hN : X.N.Nodup) (hi : X.N[i]? = some x) (hx : Loc X.env.scope x) (r : RelV v u)
    (h : ∀ s', Inv X pins (σ.set i (some v)) H s' → Q () s') (hf : X.fn x = true ∨ X.env.scope.names.lookup x = some .local := by first | exact .inl rfl | exact .inr rfl | assumption) : wpAny M A (storeName X.env x u) Q E s :=
  store_ok2 I hN hi hx r (fun s' I' _ => h s' I') hf
theorem Inv.call' {s' : Shared} {ch : List Addr} (I : Inv X pins σ H s) (ho : s'.os = s.os) (u : Un (frs X.stack) ch H H' s.heap s'.heap) (hok : HOk X.prog X.w H' s'.heap) (hg : AllBare s'.gens)
    (hch : ∀ b ∈ ch, (b ∈ X.ex ∨ X.s_0.heap.objs.size ≤ b) ∧ b ≠ X.env.locals ∧ (∀ x c, X.env.cells.lookup x = some c → c ≠ b) ∧ ∀ p ∈ X.pn ++ pins, p.1 ≠ b) : Inv X pins σ H' s' := by
  obtain ⟨h', g', d', t', o'⟩ := s'
  have e : o' = s.os := ho
  subst e
  exact I.call (g' := g') (t' := t') (d' := d') u hok hg hch
end
abbrev XK := Value → Option Addr → Hp → Prop
abbrev St := List (Option V)
abbrev VK := V → Hp → Prop
abbrev TE := St → Hp → VK → Prop
abbrev TT := St → Hp → (Bool → Hp → Prop) → Prop
abbrev TA := St → Hp → (List V → Hp → Prop) → Prop
structure Ends where
  nx : St → Hp → Prop
  rt : VK
  bk : St → Hp → Prop := fun _ _ => False
  ct : St → Hp → Prop := fun _ _ => False
abbrev TS := Ends → St → Hp → Prop
def EP (X : Cx) (pins : List (Addr × Obj)) (σ : St) (Q : VK) (u : Value) (s' : Shared) : Prop := ∃ v H', Inv X pins σ H' s' ∧ RelV v u ∧ Q v H'
def TP (X : Cx) (pins : List (Addr × Obj)) (σ : St) (Q : Bool → Hp → Prop) (b : Bool) (s' : Shared) : Prop := ∃ H', Inv X pins σ H' s' ∧ Q b H'
def AP (X : Cx) (pins : List (Addr × Obj)) (σ : St) (Q : List V → Hp → Prop) (us : List Value) (s' : Shared) : Prop := ∃ vs H', Inv X pins σ H' s' ∧ Vals vs us ∧ Q vs H'
def SP (X : Cx) (pins : List (Addr × Obj)) (D : Ends) (f : Flow) (s' : Shared) : Prop :=
  match f with
  | .next => ∃ σ' H', Inv X pins σ' H' s' ∧ D.nx σ' H'
  | .brk => ∃ σ' H', Inv X pins σ' H' s' ∧ D.bk σ' H'
  | .cont => ∃ σ' H', Inv X pins σ' H' s' ∧ D.ct σ' H'
  | .ret u => ∃ v σ' H', Inv X pins σ' H' s' ∧ RelV v u ∧ D.rt v H'
def PE (X : Cx) (e : Expr) (t : TE) : Prop :=
  ∀ (pins : List (Addr × Obj)) (s : Shared) (σ : St) (H : Hp) (Q : VK), Inv X pins σ H s → t σ H Q → wpAny (model X.prog X.w) X.A (eval e X.env) (EP X pins σ Q) X.xe s
def PT (X : Cx) (e : Expr) (t : TT) : Prop :=
  ∀ (pins : List (Addr × Obj)) (s : Shared) (σ : St) (H : Hp) (Q : Bool → Hp → Prop), Inv X pins σ H s → t σ H Q → wpAny (model X.prog X.w) X.A (isTrue e X.env (eval e X.env)) (TP X pins σ Q) X.xe s
def PW (X : Cx) (e : Expr) (t : TT) : Prop :=
  ∀ (whole : Sem Value) (pins : List (Addr × Obj)) (s : Shared) (σ : St) (H : Hp) (Q : Bool → Hp → Prop), Inv X pins σ H s → t σ H Q → wpAny (model X.prog X.w) X.A (isTrue e X.env whole) (TP X pins σ Q) X.xe s
theorem PW.pt {X : Cx} {e : Expr} {t : TT} (h : PW X e t) : PT X e t := h _
def PA (X : Cx) (es : List Expr) (t : TA) : Prop :=
  ∀ (pos : Pos) (pins : List (Addr × Obj)) (s : Shared) (σ : St) (H : Hp) (Q : List V → Hp → Prop), Inv X pins σ H s → t σ H Q → wpAny (model X.prog X.w) X.A (spliced (backTo pos (starEach es X.env))) (AP X pins σ Q) X.xe s
def PS (X : Cx) (st : Stmt) (t : TS) : Prop :=
  ∀ (pins : List (Addr × Obj)) (s : Shared) (σ : St) (H : Hp) (D : Ends), Inv X pins σ H s → t D σ H → wpAny (model X.prog X.w) X.A (exec st X.env) (SP X pins D) X.xe s
def PSs (X : Cx) (st : List Stmt) (t : TS) : Prop :=
  ∀ (pins : List (Addr × Obj)) (s : Shared) (σ : St) (H : Hp) (D : Ends), Inv X pins σ H s → t D σ H → wpAny (model X.prog X.w) X.A (execs st X.env) (SP X pins D) X.xe s
theorem thn {α : Type} {t : Sem α} {Q Q' : α → Shared → Prop} {M : Model} {A : Around} {E : Value → Shared → Prop} {s : Shared} (h : wpAny M A t Q E s) (hQ : ∀ a s, Q a s → Q' a s) : wpAny M A t Q' E s := wpAny_mono h hQ fun _ _ x => x
end L2
namespace L2
open PySem PySem.Spec PyProof.Rows
section
variable {X : Cx}
def tVar (i : Nat) : TE := fun σ H Q => ∃ v, σ[i]? = some (some v) ∧ Q v H
def tC (v : V) : TE := fun _ H Q => Q v H
theorem pe_var {i : Nat} {x : Str} {pos : Pos} (hN : X.N[i]? = some x) (hv : Vis X.env.scope x) (hd : (x == ("__debug__" : Str)) = false := by decide) (hcd : (x == ("__classdict__" : Str)) = false := by decide) : PE X (.Name x pos) (tVar i) := by
  intro pins s σ H Q I h
  obtain ⟨v, e, h⟩ := h
  obtain ⟨m, hn, hl⟩ := I.loc
  obtain ⟨u, r, l⟩ := hl i x v hN e hv
  have fin : EP X pins σ Q u s := ⟨v, H, I, r, h⟩
  rcases l with ⟨hk, hm⟩ | ⟨hk, c, hc, hcell⟩
  · exact wpAny_Name (wpAny_loadName_local I.ok.kind hk hn hm fin) hd
  · rcases hk with hk | hk
    · exact wpAny_Name (wpAny_loadName_cell I.ok.kind hk hc hcell fin) hd
    · exact wpAny_Name (wpAny_loadName_free I.ok.kind hk hc hcell fin hcd) hd
theorem pe_int {i j pos} : PE X (.Constant (.int i) j pos) (tC (.int i)) := fun _ _ _ H _ I h => wpAny_Constant_int ⟨.int i, H, I.tok _, ⟨_, rfl⟩, h⟩
theorem pe_bl {b j pos} : PE X (.Constant (.bool b) j pos) (tC (.bl b)) := fun _ _ _ H _ I h => Constant_bool ⟨.bl b, H, I, rfl, h⟩
theorem pe_non {j pos} : PE X (.Constant .none j pos) (tC .non) := fun _ _ _ H _ I h => Constant_none ⟨.non, H, I, rfl, h⟩
theorem pe_str {x j pos} : PE X (.Constant (.str x) j pos) (tC (.str x)) := fun _ _ _ H _ I h => Calls.Constant_str ⟨.str x, H, I.tok _, ⟨_, rfl⟩, h⟩
def Gl (X : Cx) (x : Str) : Prop := X.env.kindOf x = some .globalImplicit
theorem ld_glob {E : Value → Shared → Prop} {pins : List (Addr × Obj)} {s : Shared} {σ : St} {H : Hp} {x : Str} {u : Value} {pos : Pos} {Q : Value → Shared → Prop} (I : Inv X pins σ H s) (hg : Gl X x) (hm : X.mg x = some u) (h : Q u s)
    (hd : (x == ("__debug__" : Str)) = false := by decide) : wpAny (model X.prog X.w) X.A (eval (.Name x pos) X.env) Q E s :=
  Calls.Name_function_global I.ok.kind hg (Calls.loadGlobal_global (by rw [I.ok.glob]; exact I.mod.glob.keeps I.bk) hm h) hd
theorem ld_blt {E : Value → Shared → Prop} {pins : List (Addr × Obj)} {s : Shared} {σ : St} {H : Hp} {x : Str} {u : Value} {pos : Pos} {Q : Value → Shared → Prop} (I : Inv X pins σ H s) (hg : Gl X x) (hm : X.mg x = none) (hv : bootBuiltins x = some u) (h : Q u s)
    (hn : x ≠ "__name__" := by decide) (hd : (x == ("__debug__" : Str)) = false := by decide) : wpAny (model X.prog X.w) X.A (eval (.Name x pos) X.env) Q E s := by
  obtain ⟨mb, h1, h2⟩ := I.mod.blt
  exact Calls.Name_function_global I.ok.kind hg (Calls.loadGlobal_builtin (by rw [I.ok.glob]; exact I.mod.glob.keeps I.bk) hm (by rw [I.ok.blt]; exact h1.keeps I.bk) ((h2 x hn).trans hv) h) hd
theorem pe_glob {x : Str} {v : V} {u : Value} {pos : Pos} (hg : Gl X x) (hm : X.mg x = some u) (r : RelV v u) (hd : (x == ("__debug__" : Str)) = false := by decide) : PE X (.Name x pos) (tC v) :=
  fun _ _ _ H _ I h => ld_glob I hg hm ⟨v, H, I, r, h⟩ hd
variable {a b : Expr} {ta tb : TE} {pos : Pos}
def PC (X : Cx) (op : CmpOp) (a b : Expr) (t : TE) : Prop :=
  ∀ (pins : List (Addr × Obj)) (s : Shared) (σ : St) (H : Hp) (Q : VK), Inv X pins σ H s → t σ H Q →
    wpAny (model X.prog X.w) X.A (eval a X.env) (fun v s₁ => wpAny (model X.prog X.w) X.A (eval b X.env) (fun u s₂ => wpAny (model X.prog X.w) X.A (compareOp op v u) (EP X pins σ Q) X.xe s₂) X.xe s₁) X.xe s
theorem nobehind (b : Expr) {op : CmpOp} (h : op ≠ .In) (h2 : op ≠ .NotIn) : behindInMarks op b = false := by
  have e1 : (op == CmpOp.In) = false := by cases op <;> first | rfl | exact absurd rfl h
  have e2 : (op == CmpOp.NotIn) = false := by cases op <;> first | rfl | exact absurd rfl h2
  cases b <;> simp [behindInMarks, e1, e2]
def tB (t : TE) : TT := fun σ H Q => t σ H fun x H1 => ∃ c, x = .bl c ∧ Q c H1
theorem pe_cmp {op : CmpOp} {t : TE} (h : PC X op a b t) (h1 : behindInMarks op b = false := by first | exact nobehind _ (by decide) (by decide) | rfl) : PE X (.Compare a [op] [b] pos) t := fun pins s σ H Q I hw => wpAny_Compare1 (h pins s σ H Q I hw) h1
theorem pt_val {e : Expr} {t : TE} (h : PE X e t) (he : ∀ whole, isTrue e X.env whole = (do let v ← whole; standAt e.pos; holding [v] (truthy v)) := by intro _; rfl) : PT X e (tB t) := by
  intro pins s σ H Q I hw
  refine isTrue_plain (thn (h pins s σ H _ I hw) fun v s1 ⟨x, H1, I1, r1, q1⟩ => ?_) (he _)
  obtain ⟨d, rfl, q⟩ := q1
  cases r1
  exact wpAny_truthy_bool ⟨H1, I1, q⟩
variable {tA tB' : TT} {rest : List Expr}
def tAnd (t u : TT) : TT := fun σ H Q => t σ H fun c H1 => if c = true then u σ H1 Q else Q false H1
def tOr (t u : TT) : TT := fun σ H Q => t σ H fun c H1 => if c = true then Q true H1 else u σ H1 Q
def tNot (t : TT) : TT := fun σ H Q => t σ H fun c H1 => Q (!c) H1
theorem pw_and1 (ha : PT X a tA) : PW X (.BoolOp .And [a] pos) tA := by
  intro wh pins s σ H Q I h
  refine isTrue_and (thn (ha pins s σ H Q I h) fun c s1 e => ?_)
  cases c with
  | true => exact isTrue_and_nil e
  | false => exact e
theorem pw_or1 (ha : PT X a tA) : PW X (.BoolOp .Or [a] pos) tA := by
  intro wh pins s σ H Q I h
  refine isTrue_or (thn (ha pins s σ H Q I h) fun c s1 e => ?_)
  cases c with
  | false => exact isTrue_or_nil e
  | true => exact e
theorem pw_and (ha : PT X a tA) (hb : PW X (.BoolOp .And (b :: rest) pos) tB') : PW X (.BoolOp .And (a :: b :: rest) pos) (tAnd tA tB') := by
  intro wh pins s σ H Q I h
  refine isTrue_and (thn (ha pins s σ H _ I h) fun c s1 ⟨H1, I1, q1⟩ => ?_)
  cases c with
  | true => exact hb wh pins s1 σ H1 Q I1 q1
  | false => exact ⟨H1, I1, q1⟩
theorem pw_or (ha : PT X a tA) (hb : PW X (.BoolOp .Or (b :: rest) pos) tB') : PW X (.BoolOp .Or (a :: b :: rest) pos) (tOr tA tB') := by
  intro wh pins s σ H Q I h
  refine isTrue_or (thn (ha pins s σ H _ I h) fun c s1 ⟨H1, I1, q1⟩ => ?_)
  cases c with
  | true => exact ⟨H1, I1, q1⟩
  | false => exact hb wh pins s1 σ H1 Q I1 q1
theorem pt_not (ha : PT X a tA) : PT X (.UnaryOp .Not a pos) (tNot tA) := by
  intro pins s σ H Q I h
  exact isTrue_not (ha pins s σ H (fun c H1 => Q (!c) H1) I h)
def tAndV (ta tb : TE) : TE := fun σ H Q => ta σ H fun x H1 => ∃ c, x = .bl c ∧ if c = true then tb σ H1 Q else Q (.bl false) H1
def tNotV (ta : TE) : TE := fun σ H Q => ta σ H fun x H1 => ∃ c, x = .bl c ∧ Q (.bl (!c)) H1
theorem pe_one {op} {t : TE} (h : PE X a t) : PE X (.BoolOp op [a] pos) t := fun pins s σ H Q I hw => BoolOp_one (h pins s σ H Q I hw)
theorem pe_and (ha : PE X a ta) (hb : PE X (.BoolOp .And (b :: rest) pos) tb) : PE X (.BoolOp .And (a :: b :: rest) pos) (tAndV ta tb) := by
  intro pins s σ H Q I h
  refine BoolOp_and (thn (ha pins s σ H _ I h) fun v s1 ⟨x, H1, I1, r1, q1⟩ => ?_)
  obtain ⟨c, rfl, q1⟩ := q1
  cases r1
  refine wpAny_truthy_bool ?_
  cases c with
  | true => exact hb pins s1 σ H1 Q I1 q1
  | false => exact ⟨.bl false, H1, I1, rfl, q1⟩
theorem pe_not (ha : PE X a ta) : PE X (.UnaryOp .Not a pos) (tNotV ta) := by
  intro pins s σ H Q I h
  refine UnaryOp_ (thn (ha pins s σ H _ I h) fun v s1 ⟨x, H1, I1, r1, q1⟩ => ?_)
  obtain ⟨c, rfl, q1⟩ := q1
  cases r1
  exact not_of (wpAny_truthy_bool ⟨.bl (!c), H1, I1, rfl, q1⟩)
def tIf (t : TT) (ta tb : TE) : TE := fun σ H Q => t σ H fun c H1 => if c = true then ta σ H1 Q else tb σ H1 Q
theorem pe_ifExp {c : Expr} (hc : PT X c tA) (ha : PE X a ta) (hb : PE X b tb) : PE X (.IfExp c a b pos) (tIf tA ta tb) := by
  intro pins s σ H Q I h
  refine wpAny_IfExp (thn (hc pins s σ H _ I h) fun d s1 ⟨H1, I1, q1⟩ => ?_)
  cases d with
  | true => exact ha pins s1 σ H1 Q I1 q1
  | false => exact hb pins s1 σ H1 Q I1 q1
end
end L2
namespace L2
open PySem PySem.Spec PyProof.Rows
def SqL (K : PySem.W.Frag) (H : Hp) (a : Addr) (xs : List V) : Prop :=
  Rd H a (.lst xs) ∨
    ∃ (o : Obj) (its : Array Value) (n : Nat), K.lookup a = some o ∧ o.cls = .type "list" ∧ o.dict = none ∧ o.data = .seq its n ∧ its.size ≤ sizeLine ∧ Vals xs its.toList
def SqT (K : PySem.W.Frag) (H : Hp) (a : Addr) (xs : List V) : Prop :=
  Rd H a (.tup xs) ∨
    ∃ (o : Obj) (its : Array Value) (n : Nat), K.lookup a = some o ∧ o.cls = .type "tuple" ∧ o.data = .seq its n ∧ its.size ≤ sizeLine ∧ Vals xs its.toList
def absV : Value → Option V
  | .none => some .non
  | .bool b => some (.bl b)
  | .int i _ => some (.int i)
  | .str x _ => some (.str x)
  | .bytes b _ => some (.byt b)
  | .float b _ => some (.flt b)
  | .ref a => some (.ref a)
  | .type n => some (.ty n)
  | _ => none
theorem RelV.abs {x : V} {u : Value} (r : RelV x u) : absV u = some x := by
  cases x with
  | non => cases r; rfl
  | bl _ => cases r; rfl
  | int _ => obtain ⟨t, rfl⟩ := r; rfl
  | str _ => obtain ⟨t, rfl⟩ := r; rfl
  | byt _ => obtain ⟨t, rfl⟩ := r; rfl
  | flt _ => obtain ⟨t, rfl⟩ := r; rfl
  | ref _ => cases r; rfl
  | ty _ => cases r; rfl
theorem RelV.inj {x y : V} {u : Value} (r : RelV x u) (q : RelV y u) : x = y := Option.some.inj (r.abs.symm.trans q.abs)
theorem Vals.inj : ∀ {xs ys : List V} {us : List Value}, Vals xs us → Vals ys us → xs = ys
  | _, _, _, .nil, .nil => rfl
  | _, _, _, .cons r t, .cons r' t' => by rw [r.inj r', Vals.inj t t']
section
variable {X : Cx} {pins : List (Addr × Obj)} {σ : St} {H : Hp} {s : Shared} {a : Addr} {xs ys : List V}
theorem SqL.of {K : PySem.W.Frag} (h : H a = some (.lst xs)) : SqL K H a xs := .inl (.inl h)
theorem SqT.of {K : PySem.W.Frag} (h : H a = some (.tup xs)) : SqT K H a xs := .inl (.inl h)
theorem Inv.list (I : Inv X pins σ H s) (h : SqL X.K H a xs) : ∃ its : List Value, Vals xs its ∧ PlainL s.heap a its.toArray ∧ xs.length ≤ sizeLine := by
  rcases h with h | ⟨o, its, n, hk, hc, hd, hs, hz, r⟩
  · obtain ⟨z, its, n, r, e⟩ := h.ok I.hok
    exact ⟨its, r, ⟨_, n, e, rfl, rfl, rfl⟩, z⟩
  · refine ⟨its.toList, r, ⟨o, n, I.kIn a o hk, hc, hd, by simpa using hs⟩, ?_⟩
    have e := r.length
    simp only [Array.length_toList] at e
    omega
theorem Inv.tuple (I : Inv X pins σ H s) (h : SqT X.K H a xs) : ∃ its : List Value, Vals xs its ∧ IsTup s.heap a its.toArray ∧ xs.length ≤ sizeLine := by
  rcases h with h | ⟨o, its, n, hk, hc, hs, hz, r⟩
  · obtain ⟨z, its, r, p⟩ := h.ok I.hok
    exact ⟨its, r, p, z⟩
  · refine ⟨its.toList, r, ⟨o, I.kIn a o hk, hc, n, by simpa using hs⟩, ?_⟩
    have e := r.length
    simp only [Array.length_toList] at e
    omega
theorem Inv.list_inj (I : Inv X pins σ H s) (h : SqL X.K H a xs) (h' : SqL X.K H a ys) : xs = ys := by
  obtain ⟨its, r, ⟨o, n, e, _, _, d⟩, _⟩ := I.list h
  obtain ⟨its', r', ⟨o', n', e', _, _, d'⟩, _⟩ := I.list h'
  rw [e] at e'; cases e'
  rw [d] at d'
  injection d' with d1 _
  have : its = its' := by simpa using congrArg Array.toList d1
  subst this
  exact r.inj r'
theorem Inv.tuple_inj (I : Inv X pins σ H s) (h : SqT X.K H a xs) (h' : SqT X.K H a ys) : xs = ys := by
  obtain ⟨its, r, ⟨o, e, _, n, d⟩, _⟩ := I.tuple h
  obtain ⟨its', r', ⟨o', e', _, n', d'⟩, _⟩ := I.tuple h'
  rw [e] at e'; cases e'
  rw [d] at d'
  injection d' with d1 _
  have : its = its' := by simpa using congrArg Array.toList d1
  subst this
  exact r.inj r'
end
abbrev Cx.wish (X : Cx) (E : Value → Shared → Prop) : Cx := { X with xe := E }
abbrev Cx.nox (X : Cx) : Cx := X.wish fun _ _ => False
theorem Cx.Ok.wish {X : Cx} (ok : X.Ok) (E : Value → Shared → Prop) : (X.wish E).Ok :=
  ⟨ok.mod, ok.kind, ok.glob, ok.blt, ok.above, ok.inj, ok.has, ok.cab, ok.hd, ok.frames, ok.stk, ok.exf, ok.bs, ok.bsz, ok.noex, ok.exfs, ok.funs, ok.frf⟩
theorem Cx.Ok.unwish {X : Cx} {E : Value → Shared → Prop} (ok : (X.wish E).Ok) : X.Ok :=
  ⟨ok.mod, ok.kind, ok.glob, ok.blt, ok.above, ok.inj, ok.has, ok.cab, ok.hd, ok.frames, ok.stk, ok.exf, ok.bs, ok.bsz, ok.noex, ok.exfs, ok.funs, ok.frf⟩
section
variable {X : Cx} {pins : List (Addr × Obj)} {σ : St} {H : Hp} {s : Shared} {E : Value → Shared → Prop}
theorem Inv.wish (I : Inv X pins σ H s) (E : Value → Shared → Prop) : Inv (X.wish E) pins σ H s := ⟨I.ok.wish E, I.os, I.bare, I.base, I.loc, I.cell, I.free, I.freeC, I.pin, I.hok, I.len⟩
theorem Inv.unwish (I : Inv (X.wish E) pins σ H s) : Inv X pins σ H s := ⟨I.ok.unwish, I.os, I.bare, I.base, I.loc, I.cell, I.free, I.freeC, I.pin, I.hok, I.len⟩
theorem SP.unwish {D : Ends} {f : Flow} {s' : Shared} (h : SP (X.wish E) pins D f s') : SP X pins D f s' := by
  cases f with
  | next => obtain ⟨σ', H', I, q⟩ := h; exact ⟨σ', H', I.unwish, q⟩
  | brk => obtain ⟨σ', H', I, q⟩ := h; exact ⟨σ', H', I.unwish, q⟩
  | cont => obtain ⟨σ', H', I, q⟩ := h; exact ⟨σ', H', I.unwish, q⟩
  | ret u => obtain ⟨v, σ', H', I, r, q⟩ := h; exact ⟨v, σ', H', I.unwish, r, q⟩
theorem PE.nox {e : Expr} {t : TE} (h : PE X.nox e t) : PE X e t := fun pins s σ H Q I hw =>
  wpAny_mono (h pins s σ H Q (I.wish _) hw) (fun _ _ ⟨v, H', I', r, q⟩ => ⟨v, H', I'.unwish, r, q⟩) fun _ _ z => False.elim z
theorem PT.nox {e : Expr} {t : TT} (h : PT X.nox e t) : PT X e t := fun pins s σ H Q I hw =>
  wpAny_mono (h pins s σ H Q (I.wish _) hw) (fun _ _ ⟨H', I', q⟩ => ⟨H', I'.unwish, q⟩) fun _ _ z => False.elim z
theorem PSs.nox {st : List Stmt} {t : TS} (h : PSs X.nox st t) : PSs X st t := fun pins s σ H D I hw =>
  wpAny_mono (h pins s σ H D (I.wish _) hw) (fun _ _ q => q.unwish) fun _ _ z => False.elim z
end
section
variable {X : Cx} {st : Stmt} {rest : List Stmt} {t u : TS} {e : Expr} {te : TE} {pos : Pos}
def tNext : TS := fun D σ H => D.nx σ H
def tSeq (t u : TS) : TS := fun D σ H => t { D with nx := u D } σ H
theorem pss_nil : PSs X [] tNext := fun _ _ σ H _ I h => wpAny_execs_nil ⟨σ, H, I, h⟩
theorem pss_cons (h1 : PS X st t) (h2 : PSs X rest u) : PSs X (st :: rest) (tSeq t u) := by
  intro pins s σ H D I h
  refine wpAny_execs_cons (thn (h1 pins s σ H { D with nx := u D } I h) fun f s1 q => ?_)
  cases f with
  | next =>
    obtain ⟨σ', H', I', q⟩ := q
    exact h2 pins s1 σ' H' D I' q
  | ret v => exact q
  | brk => exact q
  | cont => exact q
theorem pss_one (h1 : PS X st t) : PSs X [st] t := by
  intro pins s σ H D I h
  refine wpAny_execs_cons (thn (h1 pins s σ H D I h) fun f s1 q => ?_)
  cases f with
  | next => exact wpAny_execs_nil q
  | ret v => exact q
  | brk => exact q
  | cont => exact q
def tCont : TS := fun D σ H => D.ct σ H
theorem ps_continue : PS X (.Continue pos) tCont := fun _ _ σ H _ I h => wpAny_Continue ⟨σ, H, I, h⟩
theorem Inv.quiet {pins : List (Addr × Obj)} {σ : St} {H : Hp} {s : Shared} (I : Inv X pins σ H s) : interactive X.env = false := by simp [interactive, I.ok.kind]
def tDrop (te : TE) : TS := fun D σ H => te σ H fun _ H1 => D.nx σ H1
theorem ps_expr (he : PE X e te) (hs : swapsWith e none pos.line X.env = pure false := by rfl) : PS X (.Expr e pos) (tDrop te) := by
  intro pins s σ H D I h
  exact wpAny_Expr_any (thn (he pins s σ H _ I h) fun v s1 ⟨x, H1, I1, r1, q1⟩ => ⟨σ, H1, I1, q1⟩) I.quiet hs
def tRet (te : TE) : TS := fun D σ H => te σ H D.rt
theorem ps_ret (he : PE X e te) : PS X (.Return (some e) pos) (tRet te) := by
  intro pins s σ H D I h
  exact wpAny_Return_some (thn (he pins s σ H _ I h) fun v s1 ⟨x, H1, I1, r1, q1⟩ => ⟨x, σ, H1, I1, r1, q1⟩)
def tIfS (c : TT) (t u : TS) : TS := fun D σ H => c σ H fun b H1 => if b = true then t D σ H1 else u D σ H1
theorem ps_if {c : Expr} {a b : List Stmt} {tc : TT} (hc : PT X c tc) (ha : PSs X a t) (hb : PSs X b u) : PS X (.If c a b pos) (tIfS tc t u) := by
  intro pins s σ H D I h
  refine wpAny_If (thn (hc pins s σ H _ I h) fun d s1 ⟨H1, I1, q1⟩ => ?_)
  cases d with
  | true => exact ha pins s1 σ H1 D I1 q1
  | false => exact hb pins s1 σ H1 D I1 q1
end
abbrev TG := V → St → Hp → (St → Hp → Prop) → Prop
def PG (X : Cx) (target : Expr) (t : TG) : Prop :=
  ∀ (pins : List (Addr × Obj)) (s : Shared) (σ : St) (H : Hp) (v : V) (u : Value) (Q : St → Hp → Prop), Inv X pins σ H s → RelV v u → t v σ H Q →
    wpAny (model X.prog X.w) X.A (assign target X.env u) (fun _ s' => ∃ σ' H', Inv X pins σ' H' s' ∧ Q σ' H') X.xe s
abbrev TSet := V → V → V → Hp → (Hp → Prop) → Prop
def PSet (X : Cx) (t : TSet) : Prop :=
  ∀ (pins : List (Addr × Obj)) (s : Shared) (σ : St) (H : Hp) (o i v : V) (ov iv u : Value) (Q : Hp → Prop), Inv X pins σ H s → RelV o ov → RelV i iv → RelV v u → t o i v H Q →
    wpAny (model X.prog X.w) X.A (setItem ov iv u) (fun _ s' => ∃ H', Inv X pins σ H' s' ∧ Q H') X.xe s
section
variable {X : Cx} {pos : Pos}
def gName (i : Nat) : TG := fun v σ H Q => Q (σ.set i (some v)) H
theorem pg_name {i : Nat} {x : Str} (hN : X.N.Nodup) (hi : X.N[i]? = some x) (hx : Loc X.env.scope x) (hf : X.fn x = true ∨ X.env.scope.names.lookup x = some .local := by first | exact .inl rfl | exact .inr rfl | assumption) : PG X (.Name x pos) (gName i) := by
  intro pins s σ H v u Q I r h
  exact wpAny_assign_Name (store_ok I hN hi hx r (fun s' I' => ⟨_, H, I', h⟩) hf)
def gSub (to ti : TE) (t : TSet) : TG := fun v σ H Q => to σ H fun o H1 => ti σ H1 fun i H2 => t o i v H2 fun H3 => Q σ H3
theorem pg_sub {o i : Expr} {to ti : TE} {t : TSet} (ho : PE X o to) (hi : PE X i ti) (hs : PSet X t)
    (ha : ∀ v, assign (.Subscript o i pos) X.env v = (do
      let ov ← holding [v] (eval o X.env)
      let iv ← holding [v, ov] (eval i X.env)
      standAt pos
      holding [v, ov, iv] (setItem ov iv v)
      release [v, ov, iv] []) := by intro _; rfl) : PG X (.Subscript o i pos) (gSub to ti t) := by
  intro pins s σ H v u Q I r h
  rw [ha]
  refine wpAny_bind (wpAny_holding (thn (ho pins s σ H _ I h) fun ov s1 ⟨x, H1, I1, r1, q1⟩ => ?_))
  refine wpAny_bind (wpAny_holding (thn (hi pins s1 σ H1 _ I1 q1) fun iv s2 ⟨y, H2, I2, r2, q2⟩ => ?_))
  refine wpAny_bind (wpAny_standAt (wpAny_bind (wpAny_holding (thn (hs pins s2 σ H2 x y v ov iv u _ I2 r1 r2 r q2) fun _ s3 ⟨H3, I3, q3⟩ => ?_))))
  exact wpAny_release ⟨σ, H3, I3, q3⟩
def tAsg (te : TE) (g : TG) : TS := fun D σ H => te σ H fun x H1 => g x σ H1 D.nx
theorem ps_asg {tg e : Expr} {te : TE} {g : TG} (he : PE X e te) (hg : PG X tg g) (hs : swapsWithSole [tg] e pos.line X.env = pure false := by rfl) (hw : swappedStores [tg] e X.env = pure none := by rfl)
    (h1 : (assignEach [tg] X.env).map (·.2) = [assign tg X.env] := by rfl) : PS X (.Assign [tg] e pos) (tAsg te g) := by
  intro pins s σ H D I h
  refine wpAny_Assign_stores (thn (he pins s σ H _ I h) fun v s1 ⟨x, H1, I1, r1, q1⟩ => ?_) hs hw
  rw [h1]
  exact thn (hg pins s1 σ H1 x v _ I1 r1 q1) fun _ s2 q => q
theorem ps_set {i : Nat} {x : Str} {e : Expr} {te : TE} {pos' : Pos} (hN : X.N.Nodup) (hi : X.N[i]? = some x) (hx : Loc X.env.scope x) (he : PE X e te) (hs : swapsWith e (some (.Name x pos')) pos.line X.env = pure false := by rfl) (hf : X.fn x = true ∨ X.env.scope.names.lookup x = some .local := by first | exact .inl rfl | exact .inr rfl | assumption) :
    PS X (.Assign [.Name x pos'] e pos) (tAsg te (gName i)) := by
  intro pins s σ H D I h
  refine wpAny_Assign_Name (thn (he pins s σ H _ I h) fun v s1 ⟨y, H1, I1, r1, q1⟩ => ?_) hs
  exact store_ok I1 hN hi hx r1 (fun s2 I2 => ⟨_, H1, I2, q1⟩) hf
end
section
variable {X : Cx} {pos : Pos}
def tWhile (c : TT) (tb : TS) : TS := fun D σ H => ∃ W : Nat → St → Hp → Prop, (∃ m, W m σ H) ∧ ∀ m σ H, W m σ H →
  c σ H fun b H1 => if b = true then ∃ N : St → Hp → Prop, (∀ σ' H', N σ' H' → ∃ m', m' < m ∧ W m' σ' H') ∧ tb { D with nx := N, ct := N, bk := D.nx } σ H1 else D.nx σ H1
theorem ps_while {c : Expr} {body : List Stmt} {tc : TT} {tb : TS} (hp : PassesOwn (model X.prog X.w) X.A X.env X.xe) (hc : PT X c tc) (hb : PSs X body tb) : PS X (.While c body [] pos) (tWhile tc tb) := by
  intro pins s σ H D I h
  obtain ⟨W, ⟨m0, w0⟩, turn⟩ := h
  refine wpAny_While (codeAny_whileLoop (fun n s' => ∃ σ' H', Inv X pins σ' H' s' ∧ W n σ' H') ?_ m0 ⟨σ, H, I, w0⟩)
  rintro n s1 ⟨σ1, H1, I1, w1⟩
  refine wpAny_passesOwn hp (thn (hc pins s1 σ1 H1 _ I1 (turn n σ1 H1 w1)) fun b s2 ⟨H2, I2, q2⟩ => ?_)
  cases b with
  | true =>
    obtain ⟨N, hN, q2⟩ := q2
    rw [if_pos rfl]
    refine wpAny_passesOwn hp (thn (hb pins s2 σ1 H2 _ I2 q2) fun f s3 q3 => ?_)
    cases f with
    | next =>
      obtain ⟨σ3, H3, I3, n3⟩ := q3
      obtain ⟨m', hm, w3⟩ := hN σ3 H3 n3
      exact ⟨m', hm, σ3, H3, I3, w3⟩
    | cont =>
      obtain ⟨σ3, H3, I3, n3⟩ := q3
      obtain ⟨m', hm, w3⟩ := hN σ3 H3 n3
      exact ⟨m', hm, σ3, H3, I3, w3⟩
    | brk => exact q3
    | ret v => exact q3
  | false =>
    rw [if_neg Bool.false_ne_true]
    exact wpAny_execs_nil ⟨σ1, H2, I2, q2⟩
end
structure It where
  go : Nat → Hp → Prop
  yld : Nat → Hp → V → Hp → Prop
  stop : Nat → Hp → Prop
def FpOk (X : Cx) (pins : List (Addr × Obj)) (H : Hp) (b : Addr) : Prop :=
  H b = none ∧ b ≠ X.env.locals ∧ b ∉ X.fs ∧ (b ∈ X.ex ∨ X.s_0.heap.objs.size ≤ b) ∧ (∀ x c, X.env.cells.lookup x = some c → c ≠ b) ∧ ∀ p ∈ X.pn ++ pins, p.1 ≠ b
theorem Inv.fpOk {X : Cx} {pins : List (Addr × Obj)} {σ : St} {H H' : Hp} {s : Shared} {b : Addr} (I : Inv X pins σ H s) (hb : s.heap.objs.size ≤ b) (hn : H' b = none) : FpOk X pins H' b := by
  refine ⟨hn, Nat.ne_of_gt (Nat.lt_of_lt_of_le I.lt hb), I.nofs hb, .inr (Nat.le_trans I.sz hb), fun x c e z => ?_, fun p hp z => ?_⟩
  · obtain ⟨v, q⟩ := I.cell x c e
    exact absurd (Nat.lt_of_lt_of_le q.lt (by rw [z]; exact hb)) (Nat.lt_irrefl _)
  · exact absurd (Nat.lt_of_lt_of_le (Heap.lt_size (I.pin p hp).1) (by rw [z]; exact hb)) (Nat.lt_irrefl _)
structure Turn (P : Program) (w : World) (K : PySem.W.Frag) (tg : Expr) (J : It) (fp : List Addr) (it : Addr) (tn : Nat → Heap → Prop) : Prop where
  mem : it ∈ fp
  obj : ∀ i h, tn i h → ∀ b ∈ fp, ∃ o, h.get? b = some o ∧ ∀ v, o.data ≠ .cell v
  keep : ∀ i h h', tn i h → (∀ b ∈ fp, ∀ o, h.get? b = some o → h'.get? b = some o) → tn i h'
  item : ∀ (X : Cx), X.prog = P → X.w = w → X.K = K → X.calm = true → ∀ (i : Nat) (pins : List (Addr × Obj)) (s : Shared) (σ : St) (H : Hp) (E : Value → Shared → Prop), Inv X pins σ H s → (∀ b ∈ fp, FpOk X pins H b) → tn i s.heap → J.go i H →
    wpAny (model P w) X.A (pyNext (.ref it)) (fun r s1 => ∃ u, r = some u ∧
      wpAny (model P w) X.A (letOwnedTupleGo tg (.ref it) u) (fun _ s2 => ∃ x H', Inv X pins σ H' s2 ∧ RelV x u ∧ J.yld i H x H' ∧ tn (i + 1) s2.heap ∧ ∀ b ∈ fp, H' b = none) E s1) E s
  done : ∀ (X : Cx), X.prog = P → X.w = w → X.K = K → X.calm = true → ∀ (i : Nat) (pins : List (Addr × Obj)) (s : Shared) (σ : St) (H : Hp) (E : Value → Shared → Prop), Inv X pins σ H s → (∀ b ∈ fp, FpOk X pins H b) → tn i s.heap → J.stop i H →
    wpAny (model P w) X.A (pyNext (.ref it)) (fun r s1 => r = none ∧ Inv X pins σ H s1) E s
  self : ∀ (A : Around) (i : Nat) (s : Shared) (Q : Value → Shared → Prop) (E : Value → Shared → Prop), tn i s.heap → Q (.ref it) s → wpAny (model P w) A (pyIter (.ref it)) Q E s
abbrev TI := St → Hp → (It → Hp → Prop) → Prop
def PIE (X : Cx) (pins : List (Addr × Obj)) (σ : St) (tg : Expr) (R : It → Hp → Prop) (itv : Value) (s2 : Shared) : Prop :=
  ∃ (it : Addr) (fp : List Addr) (tn : Nat → Heap → Prop) (J : It) (H' : Hp), itv = .ref it ∧ Inv X pins σ H' s2 ∧ Turn X.prog X.w X.K tg J fp it tn ∧ tn 0 s2.heap ∧ (∀ b ∈ fp, FpOk X pins H' b) ∧ R J H'
def PI (X : Cx) (tg iter : Expr) (wi : TI) : Prop :=
  ∀ (pins : List (Addr × Obj)) (s : Shared) (σ : St) (H : Hp) (R : It → Hp → Prop), Inv X pins σ H s → wi σ H R →
    wpAny (model X.prog X.w) X.A (eval iter X.env) (fun v s1 => wpAny (model X.prog X.w) X.A (pyIter v) (PIE X pins σ tg R) X.xe s1) X.xe s
theorem go_of {M : Model} {A : Around} {E : Value → Shared → Prop} {s : Shared} {tg : Expr} {it : Addr} {u : Value} {o : Obj} {n : String} {vs : Array Value} {Q : Unit → Shared → Prop} (ho : s.heap.get? it = some o) (hc : o.cls = .type n) (hd : o.data = .fields vs)
    (hn : ["enumerate", "zip", "dict_itemiterator", "dict_reverseitemiterator", "odict_iterator", "itertools.zip_longest", "itertools.pairwise"].contains n = false) (hQ : Q () s) : wpAny M A (letOwnedTupleGo tg (.ref it) u) Q E s := by
  unfold letOwnedTupleGo
  cases tg <;> first
    | exact wpAny_pure hQ
    | (cases u <;> first
        | exact wpAny_pure hQ
        | (refine wpAny_bind (wpAny_load ho ?_)
           rw [hc, hd]
           show wpAny M A (if (["enumerate", "zip", "dict_itemiterator", "dict_reverseitemiterator", "odict_iterator", "itertools.zip_longest", "itertools.pairwise"].contains n && vs[0]? == some (rawInt _)) = true then _ else _) Q E s
           rw [if_neg (by intro h; rw [hn, Bool.false_and] at h; cases h)]
           exact wpAny_pure hQ))
def Itl (K : PySem.W.Frag) (a : Addr) : It :=
  ⟨fun i H => ∃ xs x, SqL K H a xs ∧ xs[i]? = some x, fun i H x H' => H' = H ∧ ∀ xs, SqL K H a xs → xs[i]? = some x, fun i H => ∃ xs, SqL K H a xs ∧ xs.length ≤ i⟩
def Itt (K : PySem.W.Frag) (a : Addr) : It :=
  ⟨fun i H => ∃ xs x, SqT K H a xs ∧ xs[i]? = some x, fun i H x H' => H' = H ∧ ∀ xs, SqT K H a xs → xs[i]? = some x, fun i H => ∃ xs, SqT K H a xs ∧ xs.length ≤ i⟩
def Itr (lo : Int) (n : Nat) : It := ⟨fun i _ => i < n, fun i H x H' => H' = H ∧ x = .int (lo + i), fun i _ => n ≤ i⟩
theorem turn_list {P : Program} {w : World} {K : PySem.W.Frag} {tg : Expr} (a it : Addr) : Turn P w K tg (Itl K a) [it] it (fun i h => h.IsListIter it a i) where
  mem := by simp
  obj := fun i h st b hb => by
    have e : b = it := by simpa using hb
    subst e
    obtain ⟨o, e, c, d⟩ := st
    exact ⟨o, e, fun v z => by rw [d] at z; cases z⟩
  keep := fun i h h' st k => st.at fun o e => k it (by simp) o e
  item := by
    intro X hP hw hK hc i pins s σ H E I hf st hg
    subst hP hw hK
    obtain ⟨xs, x, hq, hx⟩ := hg
    obtain ⟨its, rv, p, hz⟩ := I.list hq
    obtain ⟨u, hu, ru⟩ := rv.get hx
    obtain ⟨f0, f1, f2, f3, f4, f5⟩ := hf it (by simp)
    refine wpAny_pyNext_list_item st p.isList (x := u) (by simpa using hu) fun h' st' sb => ?_
    have I1 : Inv X pins σ H { s with heap := h' } := I.turned (t' := s.toks) (fun b o hb e => (sb.2 b hb).trans e) f0 f1 f3 f4 f5
    obtain ⟨o, e, c, d⟩ := id st'
    exact ⟨u, rfl, go_of (s := { s with heap := h' }) e c d (by decide) ⟨x, H, I1, ru, ⟨rfl, fun ys hy => by rw [I.list_inj hy hq]; exact hx⟩, st', fun b hb => (hf b hb).1⟩⟩
  done := by
    intro X hP hw hK hc i pins s σ H E I hf st hg
    subst hP hw hK
    obtain ⟨xs, hq, hx⟩ := hg
    obtain ⟨its, rv, p, hz⟩ := I.list hq
    obtain ⟨f0, f1, f2, f3, f4, f5⟩ := hf it (by simp)
    have hl := rv.length
    exact wpAny_pyNext_list_end (I.ok.hd hc) st p.isList (by simp; omega) fun h' eb => ⟨rfl, I.turned (t' := s.toks) (fun b o hb e => eb b o hb e) f0 f1 f3 f4 f5⟩
  self := fun _ _ _ _ _ st h => wpAny_pyIter_listiter st h
theorem turn_tuple {P : Program} {w : World} {K : PySem.W.Frag} {tg : Expr} (a it : Addr) : Turn P w K tg (Itt K a) [it] it (fun i h => h.IsTupleIter it a i) where
  mem := by simp
  obj := fun i h st b hb => by
    have e : b = it := by simpa using hb
    subst e
    obtain ⟨o, e, c, d⟩ := st
    exact ⟨o, e, fun v z => by rw [d] at z; cases z⟩
  keep := fun i h h' st k => st.at fun o e => k it (by simp) o e
  item := by
    intro X hP hw hK hc i pins s σ H E I hf st hg
    subst hP hw hK
    obtain ⟨xs, x, hq, hx⟩ := hg
    obtain ⟨its, rv, p, hz⟩ := I.tuple hq
    obtain ⟨u, hu, ru⟩ := rv.get hx
    obtain ⟨f0, f1, f2, f3, f4, f5⟩ := hf it (by simp)
    refine wpAny_pyNext_tuple_item st (show s.heap.IsTuple a its.toArray from p) (x := u) (by simpa using hu) fun h' st' sb => ?_
    have I1 : Inv X pins σ H { s with heap := h' } := I.turned (t' := s.toks) (fun b o hb e => (sb.2 b hb).trans e) f0 f1 f3 f4 f5
    obtain ⟨o, e, c, d⟩ := id st'
    exact ⟨u, rfl, go_of (s := { s with heap := h' }) e c d (by decide) ⟨x, H, I1, ru, ⟨rfl, fun ys hy => by rw [I.tuple_inj hy hq]; exact hx⟩, st', fun b hb => (hf b hb).1⟩⟩
  done := by
    intro X hP hw hK hc i pins s σ H E I hf st hg
    subst hP hw hK
    obtain ⟨xs, hq, hx⟩ := hg
    obtain ⟨its, rv, p, hz⟩ := I.tuple hq
    obtain ⟨f0, f1, f2, f3, f4, f5⟩ := hf it (by simp)
    have hl := rv.length
    exact wpAny_pyNext_tuple_end (I.ok.hd hc) st (show s.heap.IsTuple a its.toArray from p) (by simp; omega) fun h' eb => ⟨rfl, I.turned (t' := s.toks) (fun b o hb e => eb b o hb e) f0 f1 f3 f4 f5⟩
  self := fun _ _ _ _ _ st h => wpAny_pyIter_tupleiter st h
theorem turn_range {P : Program} {w : World} {K : PySem.W.Frag} {tg : Expr} (it : Addr) (lo : Int) (n : Nat) : Turn P w K tg (Itr lo n) [it] it (fun i h => IsRangeIter h it (lo + (i : Nat) * 1) ((n : Int) - (i : Nat)) 1) where
  mem := by simp
  obj := fun i h st b hb => by
    have e : b = it := by simpa using hb
    subst e
    exact ⟨_, st, fun v z => by
      have z' : Data.fields _ = Data.cell v := z
      cases z'⟩
  keep := fun i h h' st k => k it (by simp) _ st
  item := by
    intro X hP hw hK hc i pins s σ H E I hf st hg
    subst hP hw hK
    obtain ⟨f0, f1, f2, f3, f4, f5⟩ := hf it (by simp)
    have W := Walks.range (prog := X.prog) (w := X.w) (I.ok.hd hc) it lo 1 n
    refine W.item i s _ _ hg st fun v h' tk hv st' kk => ?_
    obtain ⟨t, rfl⟩ := hv
    have I1 : Inv X pins σ H { s with heap := h', toks := tk } := I.turned (fun b o hb e => kk b o (by simpa using hb) e) f0 f1 f3 f4 f5
    refine ⟨_, rfl, go_of (s := { s with heap := h', toks := tk }) (n := "range_iterator") st' rfl rfl (by decide) ⟨.int (lo + i), H, I1, ⟨t, ?_⟩, ⟨rfl, rfl⟩, st', fun b hb => (hf b hb).1⟩⟩
    rw [Int.mul_one]
  done := by
    intro X hP hw hK hc i pins s σ H E I hf st hg
    subst hP hw hK
    obtain ⟨f0, f1, f2, f3, f4, f5⟩ := hf it (by simp)
    exact wpAny_pyNext_range_end (I.ok.hd hc) st (by have : n ≤ i := hg; omega) fun h' eb => ⟨rfl, I.turned (t' := s.toks) (fun b o hb e => eb b o hb e) f0 f1 f3 f4 f5⟩
  self := fun _ _ _ _ _ st h => wpAny_pyIter_rangeiter st h
end L2
namespace L2
open PySem PySem.Spec PyProof.Rows
section
variable {X : Cx} {tg : Expr}
def iList (K : PySem.W.Frag) (tl : TE) : TI := fun σ H R => tl σ H fun x H1 => ∃ a, x = .ref a ∧ (∃ xs, SqL K H1 a xs) ∧ R (Itl K a) H1
def iTup (K : PySem.W.Frag) (tl : TE) : TI := fun σ H R => tl σ H fun x H1 => ∃ a, x = .ref a ∧ (∃ xs, SqT K H1 a xs) ∧ R (Itt K a) H1
theorem pi_list {l : Expr} {tl : TE} (hl : PE X l tl) : PI X tg l (iList X.K tl) := by
  intro pins s σ H R I h
  refine thn (hl pins s σ H _ I h) fun v s1 ⟨x, H1, I1, r1, q1⟩ => ?_
  obtain ⟨a, e, ⟨xs, hq⟩, q⟩ := q1
  subst e
  cases r1
  obtain ⟨its, rv, p, hz⟩ := I1.list hq
  refine wpAny_pyIter_list p.isList ?_
  refine ⟨s1.heap.objs.size, [s1.heap.objs.size], _, _, H1, rfl, I1.kept (t' := s1.toks) fun b o e => Heap.get?_push_of_some _ e, turn_list a _, ⟨_, Heap.get?_push_size _ rfl, rfl, rfl⟩, fun b hb => ?_, q⟩
  have e : b = s1.heap.objs.size := by simpa using hb
  subst e
  exact I1.fpOk (Nat.le_refl _) (I1.hok.fresh (Nat.le_refl _))
theorem pi_tup {l : Expr} {tl : TE} (hl : PE X l tl) : PI X tg l (iTup X.K tl) := by
  intro pins s σ H R I h
  refine thn (hl pins s σ H _ I h) fun v s1 ⟨x, H1, I1, r1, q1⟩ => ?_
  obtain ⟨a, e, ⟨xs, hq⟩, q⟩ := q1
  subst e
  cases r1
  obtain ⟨its, rv, p, hz⟩ := I1.tuple hq
  refine wpAny_pyIter_tuple (show s1.heap.IsTuple a its.toArray from p) ?_
  refine ⟨s1.heap.objs.size, [s1.heap.objs.size], _, _, H1, rfl, I1.kept (t' := s1.toks) fun b o e => Heap.get?_push_of_some _ e, turn_tuple a _, ⟨_, Heap.get?_push_size _ rfl, rfl, rfl⟩, fun b hb => ?_, q⟩
  have e : b = s1.heap.objs.size := by simpa using hb
  subst e
  exact I1.fpOk (Nat.le_refl _) (I1.hok.fresh (Nat.le_refl _))
theorem range_it {pins : List (Addr × Obj)} {σ : St} {H : Hp} {s : Shared} {R : It → Hp → Prop} {E : Value → Shared → Prop} {lo hi : Int} {t u v : Tok} {tk : Nat} (I : Inv X pins σ H s) (h1 : -(2 ^ 62) ≤ lo) (h2 : lo < 2 ^ 62) (h3 : -(2 ^ 62) ≤ hi) (h4 : hi < 2 ^ 62)
    (q : R (Itr lo (hi - lo).toNat) H) : wpAny (model X.prog X.w) X.A (pyIter (.ref s.heap.objs.size)) (PIE X pins σ tg R) E { s with heap := s.heap.push { cls := .type "range", data := .fields #[.int lo t, .int hi u, .int 1 v] }, toks := tk } := by
  refine wpAny_pyIter_range (IsRange.new ..) (small_one h1 h2 h3 h4) ?_
  have I1 : Inv X pins σ H { s with heap := s.heap.push { cls := .type "range", data := .fields #[.int lo t, .int hi u, .int 1 v] }, toks := tk } := I.kept fun b o e => Heap.get?_push_of_some _ e
  refine ⟨(s.heap.push { cls := .type "range", data := .fields #[.int lo t, .int hi u, .int 1 v] }).objs.size, [(s.heap.push { cls := .type "range", data := .fields #[.int lo t, .int hi u, .int 1 v] }).objs.size], _, _, H, rfl,
    I1.kept (t' := tk) fun b o e => Heap.get?_push_of_some _ e, turn_range _ lo (hi - lo).toNat, ?_, fun b hb => ?_, q⟩
  · have e1 : lo + ((0 : Nat) : Int) * 1 = lo := by simp
    have e2 : (((hi - lo).toNat : Nat) : Int) - ((0 : Nat) : Int) = Builtin.Range.rangeSize lo hi 1 := by rw [rangeSize_one]; split <;> omega
    show IsRangeIter _ _ (lo + ((0 : Nat) : Int) * 1) ((((hi - lo).toNat : Nat) : Int) - ((0 : Nat) : Int)) 1
    rw [e1, e2]
    exact Heap.get?_push_size _ rfl
  · have e : b = (s.heap.push { cls := .type "range", data := .fields #[.int lo t, .int hi u, .int 1 v] }).objs.size := by simpa using hb
    subst e
    exact I1.fpOk (Nat.le_refl _) (I1.hok.fresh (Nat.le_refl _))
def iRng1 (ta : TA) : TI := fun σ H R => ta σ H fun vs H1 => ∃ j : Int, vs = [.int j] ∧ -(2 ^ 62) ≤ j ∧ j < 2 ^ 62 ∧ R (Itr 0 j.toNat) H1
theorem pi_range1 {a : Expr} {ta : TA} {p pos : Pos} (hg : Gl X "range") (hm : X.mg "range" = none) (ha : PA X [a] ta) (hs : starEach [a] X.env = [(false, eval a X.env)] := by rfl) : PI X tg (.Call (.Name "range" p) [a] [] pos) (iRng1 ta) := by
  intro pins s σ H R I h
  refine Call_ (ld_blt I hg hm boot_range (PyProof.Rows.callWith_type1 (thn (ha pos pins s σ H _ I h) fun us s1 ⟨vs, H1, I1, r1, q1⟩ => ?_) hs rfl))
  obtain ⟨j, e, q1, q2, q⟩ := q1
  subst e
  cases r1 with
  | cons r rr =>
    cases rr
    obtain ⟨t, rfl⟩ := r
    exact call_range_1 (range_it I1 (by omega) (by omega) q1 q2 (by simpa using q))
def tFor (wi : TI) (g : TG) (tb : TS) : TS := fun D σ H => wi σ H fun J H1 => ∃ W : Nat → Nat → St → Hp → Prop, (∃ m, W 0 m σ H1) ∧ ∀ i m σ H, W i m σ H →
  (J.stop i H ∧ D.nx σ H) ∨ (J.go i H ∧ ∃ N : St → Hp → Prop, (∀ σ' H', N σ' H' → ∃ m', m' < m ∧ W (i + 1) m' σ' H') ∧ ∀ x H', J.yld i H x H' → g x σ H' fun σ2 H2 => tb { D with nx := N, ct := N, bk := D.nx } σ2 H2)
def pinsAt (fp : List Addr) (h : Heap) : List (Addr × Obj) := fp.filterMap fun b => (h.get? b).map fun o => (b, o)
theorem mem_pinsAt {fp : List Addr} {h : Heap} {b : Addr} {o : Obj} (hb : b ∈ fp) (e : h.get? b = some o) : (b, o) ∈ pinsAt fp h := List.mem_filterMap.mpr ⟨b, hb, by rw [e]; rfl⟩
theorem of_pinsAt {fp : List Addr} {h : Heap} {p : Addr × Obj} (hp : p ∈ pinsAt fp h) : p.1 ∈ fp ∧ h.get? p.1 = some p.2 := by
  obtain ⟨b, hb, e⟩ := List.mem_filterMap.mp hp
  cases q : h.get? b with
  | none => rw [q] at e; cases e
  | some o =>
    rw [q] at e
    have e' : (b, o) = p := Option.some.inj e
    subst e'
    exact ⟨hb, q⟩
theorem Inv.pinned {pins : List (Addr × Obj)} {σ : St} {H : Hp} {s : Shared} {fp : List Addr} (I : Inv X pins σ H s) (hf : ∀ b ∈ fp, FpOk X pins H b) (ho : ∀ b ∈ fp, ∃ o, s.heap.get? b = some o ∧ ∀ v, o.data ≠ .cell v) : Inv X (pins ++ pinsAt fp s.heap) σ H s :=
  I.pins_of fun p hp => (List.mem_append.mp hp).elim (fun z => I.pin p (List.mem_append_right _ z)) fun z => by
    obtain ⟨hb, e⟩ := of_pinsAt z
    obtain ⟨f0, f1, f2, _⟩ := hf p.1 hb
    obtain ⟨o, e', d⟩ := ho p.1 hb
    rw [e] at e'; cases e'
    exact ⟨e, f0, f1, f2, d⟩
theorem Inv.unpinned {pins pl : List (Addr × Obj)} {σ : St} {H : Hp} {s : Shared} (I : Inv X (pins ++ pl) σ H s) : Inv X pins σ H s := I.pins_of fun p hp => I.pin p (List.mem_append_right _ (List.mem_append_left _ hp))
theorem ps_for {iter : Expr} {body : List Stmt} {wi : TI} {g : TG} {tb : TS} {pos : Pos} (hp : PassesOwn (model X.prog X.w) X.A X.env X.xe) (hc : X.calm = true) (hi : PI X tg iter wi) (hg : PG X tg g) (hb : PSs X body tb)
    (hs : ∀ x, foldedSetIterable iter X.env x = pure x := by intro _; rfl) : PS X (.For tg iter body [] pos) (tFor wi g tb) := by
  intro pins s σ H D I h
  refine wpAny_For (thn (hi pins s σ H _ I h) fun v s1 h1 => thn h1 fun itv s2 h2 => ?_) hs
  obtain ⟨it, fp, tn, J, H2, e, I2, T, st2, f2, W, ⟨m0, w0⟩, turn⟩ := h2
  subst e
  have stat : ∀ {H' : Hp}, (∀ b ∈ fp, H' b = none) → ∀ b ∈ fp, FpOk X pins H' b := fun hn b hb => ⟨hn b hb, (f2 b hb).2⟩
  refine codeAny_forLoop_any (fun n s' => ∃ i σ' H', Inv X pins σ' H' s' ∧ tn i s'.heap ∧ (∀ b ∈ fp, H' b = none) ∧ W i n σ' H') ?_ m0 ⟨0, σ, H2, I2, st2, fun b hb => (f2 b hb).1, w0⟩
  rintro n s3 ⟨i, σ3, H3, I3, st3, fr3, w3⟩
  rcases turn i n σ3 H3 w3 with ⟨stop, qn⟩ | ⟨go, N, hN, step⟩
  · refine wpAny_passesOwn hp (thn (T.done X rfl rfl rfl hc i pins s3 σ3 H3 X.xe I3 (stat fr3) st3 stop) fun r s4 ⟨hr, I4⟩ => ?_)
    subst hr
    exact wpAny_execs_nil ⟨σ3, H3, I4, qn⟩
  · refine wpAny_passesOwn hp (thn (T.item X rfl rfl rfl hc i pins s3 σ3 H3 X.xe I3 (stat fr3) st3 go) fun r s4 ⟨u, hr, h4⟩ => ?_)
    subst hr
    refine wpAny_passesOwn hp (thn h4 fun _ s5 ⟨x, H5, I5, r5, y5, st5, fr5⟩ => ?_)
    have I5' := I5.pinned (stat fr5) (T.obj _ _ st5)
    refine wpAny_passesOwn hp (thn (hg _ s5 σ3 H5 x u _ I5' r5 (step x H5 y5)) fun _ s6 ⟨σ6, H6, I6, q6⟩ => ?_)
    refine wpAny_passesOwn hp (thn (hb _ s6 σ6 H6 _ I6 q6) fun f s7 q7 => ?_)
    have again : ∀ {σ7 : St} {H7 : Hp}, Inv X (pins ++ pinsAt fp s5.heap) σ7 H7 s7 → N σ7 H7 → ∃ m, m < n ∧ ∃ i σ' H', Inv X pins σ' H' s7 ∧ tn i s7.heap ∧ (∀ b ∈ fp, H' b = none) ∧ W i m σ' H' := fun {σ7 H7} I7 n7 => by
      obtain ⟨m', hm, w7⟩ := hN σ7 H7 n7
      refine ⟨m', hm, i + 1, σ7, H7, I7.unpinned, T.keep _ _ _ st5 fun b hb o e => (I7.pin (b, o) (List.mem_append_right _ (List.mem_append_right _ (mem_pinsAt hb e)))).1, fun b hb => ?_, w7⟩
      obtain ⟨o, e, d⟩ := T.obj _ _ st5 b hb
      exact (I7.pin (b, o) (List.mem_append_right _ (List.mem_append_right _ (mem_pinsAt hb e)))).2.1
    cases f with
    | next => obtain ⟨σ7, H7, I7, n7⟩ := q7; exact again I7 n7
    | cont => obtain ⟨σ7, H7, I7, n7⟩ := q7; exact again I7 n7
    | brk => obtain ⟨σ7, H7, I7, q7⟩ := q7; exact ⟨σ7, H7, I7.unpinned, q7⟩
    | ret v => obtain ⟨x7, σ7, H7, I7, r7, q7⟩ := q7; exact ⟨x7, σ7, H7, I7.unpinned, r7, q7⟩
end
theorem for_list {K : PySem.W.Frag} {a : Addr} {xs : List V} {g : TG} {tb : TS} {D : Ends} {σ : St} {H : Hp} (Pv : Nat → St → Hp → Prop) (h0 : Pv 0 σ H) (hl : ∀ i σ H, i ≤ xs.length → Pv i σ H → SqL K H a xs)
    (hs : ∀ i x σ H, xs[i]? = some x → Pv i σ H → g x σ H fun σ2 H2 => tb { D with nx := Pv (i + 1), ct := Pv (i + 1), bk := D.nx } σ2 H2) (hd : ∀ σ H, Pv xs.length σ H → D.nx σ H) :
    ∃ W : Nat → Nat → St → Hp → Prop, (∃ m, W 0 m σ H) ∧ ∀ i m σ H, W i m σ H →
      ((Itl K a).stop i H ∧ D.nx σ H) ∨ ((Itl K a).go i H ∧ ∃ N : St → Hp → Prop, (∀ σ' H', N σ' H' → ∃ m', m' < m ∧ W (i + 1) m' σ' H') ∧ ∀ x H', (Itl K a).yld i H x H' → g x σ H' fun σ2 H2 => tb { D with nx := N, ct := N, bk := D.nx } σ2 H2) := by
  refine ⟨fun i m σ H => m = xs.length - i ∧ i ≤ xs.length ∧ Pv i σ H, ⟨xs.length, by simp, Nat.zero_le _, h0⟩, ?_⟩
  rintro i m σ H ⟨rfl, hi, p⟩
  have q := hl i σ H hi p
  by_cases hlt : i < xs.length
  · refine .inr ⟨⟨xs, xs[i], q, by simp [hlt]⟩, Pv (i + 1), fun σ' H' p' => ⟨xs.length - (i + 1), by omega, rfl, hlt, p'⟩, fun x H' y => ?_⟩
    obtain ⟨e, y⟩ := y
    subst e
    exact hs i x σ _ (y xs q) p
  · have e : i = xs.length := by omega
    subst e
    exact .inl ⟨⟨xs, q, Nat.le_refl _⟩, hd σ H p⟩
theorem for_range {lo : Int} {n : Nat} {g : TG} {tb : TS} {D : Ends} {σ : St} {H : Hp} (Pv : Nat → St → Hp → Prop) (h0 : Pv 0 σ H)
    (hs : ∀ i σ H, i < n → Pv i σ H → g (.int (lo + i)) σ H fun σ2 H2 => tb { D with nx := Pv (i + 1), ct := Pv (i + 1), bk := D.nx } σ2 H2) (hd : ∀ σ H, Pv n σ H → D.nx σ H) :
    ∃ W : Nat → Nat → St → Hp → Prop, (∃ m, W 0 m σ H) ∧ ∀ i m σ H, W i m σ H →
      ((Itr lo n).stop i H ∧ D.nx σ H) ∨ ((Itr lo n).go i H ∧ ∃ N : St → Hp → Prop, (∀ σ' H', N σ' H' → ∃ m', m' < m ∧ W (i + 1) m' σ' H') ∧ ∀ x H', (Itr lo n).yld i H x H' → g x σ H' fun σ2 H2 => tb { D with nx := N, ct := N, bk := D.nx } σ2 H2) := by
  refine ⟨fun i m σ H => m = n - i ∧ i ≤ n ∧ Pv i σ H, ⟨n, by simp, Nat.zero_le _, h0⟩, ?_⟩
  rintro i m σ H ⟨rfl, hi, p⟩
  by_cases hlt : i < n
  · refine .inr ⟨hlt, Pv (i + 1), fun σ' H' p' => ⟨n - (i + 1), by omega, rfl, hlt, p'⟩, fun x H' y => ?_⟩
    obtain ⟨e, y⟩ := y
    subst e y
    exact hs i σ _ hlt p
  · have e : i = n := by omega
    subst e
    exact .inl ⟨Nat.le_refl _, hd σ H p⟩
theorem while_by {c : TT} {tb : TS} {D : Ends} {σ : St} {H : Hp} (Pv : St → Hp → Prop) (μ : St → Hp → Nat) (h0 : Pv σ H)
    (hs : ∀ σ H, Pv σ H → c σ H fun b H1 => if b = true then tb { D with nx := fun σ' H' => Pv σ' H' ∧ μ σ' H' < μ σ H, ct := fun σ' H' => Pv σ' H' ∧ μ σ' H' < μ σ H, bk := D.nx } σ H1 else D.nx σ H1)
    (mono : ∀ σ H Q Q', (∀ b H1, Q b H1 → Q' b H1) → c σ H Q → c σ H Q') : tWhile c tb D σ H := by
  refine ⟨fun m σ H => m = μ σ H ∧ Pv σ H, ⟨_, rfl, h0⟩, ?_⟩
  rintro m σ H ⟨rfl, p⟩
  refine mono σ H _ _ (fun b H1 q => ?_) (hs σ H p)
  cases b with
  | true => exact ⟨_, fun σ' H' ⟨p', l⟩ => ⟨_, l, rfl, p'⟩, q⟩
  | false => exact q
end L2
namespace L2
open PySem PySem.Spec PyProof.Rows
abbrev R2 := V → V → Hp → VK → Prop
def OpR (X : Cx) (f : Value → Value → Sem Value) (r : R2) : Prop :=
  ∀ (pins : List (Addr × Obj)) (s : Shared) (σ : St) (H : Hp) (x y : V) (v u : Value) (Q : VK), Inv X pins σ H s → RelV x v → RelV y u → r x y H Q →
    wpAny (model X.prog X.w) X.A (f v u) (EP X pins σ Q) X.xe s
def UnR (X : Cx) (f : Value → Sem Value) (r : V → Hp → VK → Prop) : Prop :=
  ∀ (pins : List (Addr × Obj)) (s : Shared) (σ : St) (H : Hp) (x : V) (v : Value) (Q : VK), Inv X pins σ H s → RelV x v → r x H Q →
    wpAny (model X.prog X.w) X.A (f v) (EP X pins σ Q) X.xe s
def CallR (X : Cx) (f : Value) (r : List V → Hp → VK → Prop) : Prop :=
  ∀ (pins : List (Addr × Obj)) (s : Shared) (σ : St) (H : Hp) (xs : List V) (us : List Value) (Q : VK), Inv X pins σ H s → Vals xs us → r xs H Q →
    wpAny (model X.prog X.w) X.A (call f us) (EP X pins σ Q) X.xe s
def tOp (r : R2) (ta tb : TE) : TE := fun σ H Q => ta σ H fun x H1 => tb σ H1 fun y H2 => r x y H2 Q
def tUn (r : V → Hp → VK → Prop) (ta : TE) : TE := fun σ H Q => ta σ H fun x H1 => r x H1 Q
def rI (C : Int → Int → Prop) (g : Int → Int → V) : R2 := fun x y H Q => ∃ i j, x = .int i ∧ y = .int j ∧ C i j ∧ Q (g i j) H
def rI0 (g : Int → Int → V) : R2 := fun x y H Q => ∃ i j, x = .int i ∧ y = .int j ∧ Q (g i j) H
def rU (g : Int → V) : V → Hp → VK → Prop := fun x H Q => ∃ i, x = .int i ∧ Q (g i) H
section
variable {X : Cx} {a b c : Expr} {ta tb tc : TE} {pos : Pos}
theorem binT (ha : PE X a ta) (hb : PE X b tb) {pins : List (Addr × Obj)} {s : Shared} {σ : St} {H : Hp} {R : V → V → Hp → Prop} (I : Inv X pins σ H s)
    (h : ta σ H fun x H1 => tb σ H1 fun y H2 => R x y H2) {Q : Value → Shared → Prop} {f : Value → Value → Sem Value}
    (hf : ∀ v u s2 x y H2, Inv X pins σ H2 s2 → RelV x v → RelV y u → R x y H2 → wpAny (model X.prog X.w) X.A (f v u) Q X.xe s2) :
    wpAny (model X.prog X.w) X.A (eval a X.env) (fun v s₁ => wpAny (model X.prog X.w) X.A (eval b X.env) (fun u s₂ => wpAny (model X.prog X.w) X.A (f v u) Q X.xe s₂) X.xe s₁) X.xe s := by
  refine thn (ha pins s σ H _ I h) fun v s1 ⟨x, H1, I1, r1, q1⟩ => ?_
  refine thn (hb pins s1 σ H1 _ I1 q1) fun u s2 ⟨y, H2, I2, r2, q2⟩ => ?_
  exact hf v u s2 x y H2 I2 r1 r2 q2
theorem pe_op {op : Operator} {r : R2} (ho : OpR X (binaryOp op) r) (ha : PE X a ta) (hb : PE X b tb) : PE X (.BinOp a op b pos) (tOp r ta tb) := by
  intro pins s σ H Q I h
  exact wpAny_BinOp (binT ha hb I h fun v u s2 x y H2 I2 rx ry q => ho pins s2 σ H2 x y v u Q I2 rx ry q)
theorem pe_un {op : UnaryOp} {r : V → Hp → VK → Prop} (ho : UnR X (unaryOp op) r) (ha : PE X a ta) : PE X (.UnaryOp op a pos) (tUn r ta) := by
  intro pins s σ H Q I h
  exact UnaryOp_ (thn (ha pins s σ H _ I h) fun v s1 ⟨x, H1, I1, r1, q1⟩ => ho pins s1 σ H1 x v Q I1 r1 q1)
theorem opI {f : Value → Value → Sem Value} {C : Int → Int → Prop} {g : Int → Int → Int}
    (rule : ∀ (i j : Int) (t u : Tok) (s : Shared) (Q : Value → Shared → Prop) (E : Value → Shared → Prop), C i j → Q (.int (g i j) s.toks) { s with toks := s.toks + 1 } → wpAny (model X.prog X.w) X.A (f (.int i t) (.int j u)) Q E s) :
    OpR X f (rI C fun i j => .int (g i j)) := by
  intro pins s σ H x y v u Q I rx ry h
  obtain ⟨i, j, rfl, rfl, hc, q⟩ := h
  obtain ⟨t, rfl⟩ := rx
  obtain ⟨t', rfl⟩ := ry
  exact rule i j t t' s _ _ hc ⟨.int (g i j), H, I.tok _, ⟨_, rfl⟩, q⟩
theorem opI0 {f : Value → Value → Sem Value} {g : Int → Int → Int}
    (rule : ∀ (i j : Int) (t u : Tok) (s : Shared) (Q : Value → Shared → Prop) (E : Value → Shared → Prop), Q (.int (g i j) s.toks) { s with toks := s.toks + 1 } → wpAny (model X.prog X.w) X.A (f (.int i t) (.int j u)) Q E s) :
    OpR X f (rI0 fun i j => .int (g i j)) := by
  intro pins s σ H x y v u Q I rx ry h
  obtain ⟨i, j, rfl, rfl, q⟩ := h
  obtain ⟨t, rfl⟩ := rx
  obtain ⟨t', rfl⟩ := ry
  exact rule i j t t' s _ _ ⟨.int (g i j), H, I.tok _, ⟨_, rfl⟩, q⟩
theorem opB0 {f : Value → Value → Sem Value} {g : Int → Int → Bool}
    (rule : ∀ (i j : Int) (t u : Tok) (s : Shared) (Q : Value → Shared → Prop) (E : Value → Shared → Prop), Q (.bool (g i j)) s → wpAny (model X.prog X.w) X.A (f (.int i t) (.int j u)) Q E s) :
    OpR X f (rI0 fun i j => .bl (g i j)) := by
  intro pins s σ H x y v u Q I rx ry h
  obtain ⟨i, j, rfl, rfl, q⟩ := h
  obtain ⟨t, rfl⟩ := rx
  obtain ⟨t', rfl⟩ := ry
  exact rule i j t t' s _ _ ⟨.bl (g i j), H, I, rfl, q⟩
def CMul (i j : Int) : Prop := (-(2 ^ 64) < i ∧ i < 2 ^ 64) ∨ (-(2 ^ 64) < j ∧ j < 2 ^ 64)
theorem CMul.ok {i j : Int} (h : CMul i j) : IntMulOk i j := by
  rcases h with ⟨h1, h2⟩ | ⟨h1, h2⟩
  · exact .of_left (intBits_le_64 h1 h2)
  · exact .of_right (intBits_le_64 h1 h2)
theorem op_add : OpR X (binaryOp .Add) (rI0 fun i j => .int (i + j)) := opI0 fun _ _ _ _ _ _ _ q => add_int q
theorem op_mod : OpR X (binaryOp .Mod) (rI (fun _ j => 0 < j) fun i j => .int (i % j)) := opI fun i j _ _ _ _ _ hc q => by
  have h1 : (0 : Int) < j := hc
  exact mod_int' (by omega) (by rw [Int.fmod_eq_emod_of_nonneg i (by omega)]; exact q)
theorem op_and : OpR X (binaryOp .BitAnd) (rI0 fun i j => .int (Builtin.bitAnd i j)) := opI0 fun _ _ _ _ _ _ _ q => and_int q
theorem op_xor : OpR X (binaryOp .BitXor) (rI0 fun i j => .int (Builtin.bitXor i j)) := opI0 fun _ _ _ _ _ _ _ q => xor_int q
theorem unI {f : Value → Sem Value} {g : Int → Int}
    (rule : ∀ (i : Int) (t : Tok) (s : Shared) (Q : Value → Shared → Prop) (E : Value → Shared → Prop), Q (.int (g i) s.toks) { s with toks := s.toks + 1 } → wpAny (model X.prog X.w) X.A (f (.int i t)) Q E s) :
    UnR X f (rU fun i => .int (g i)) := by
  intro pins s σ H x v Q I rx h
  obtain ⟨i, rfl, q⟩ := h
  obtain ⟨t, rfl⟩ := rx
  exact rule i t s _ _ ⟨.int (g i), H, I.tok _, ⟨_, rfl⟩, q⟩
theorem un_neg : UnR X (unaryOp .USub) (rU fun i => .int (-i)) := unI fun _ _ _ _ _ q => neg_int q
end
def scal : V → V → Bool
  | .non, .non => true | .non, .int _ => true | .int _, .non => true | .non, .bl _ => true | .bl _, .non => true | .non, .str _ => true | .str _, .non => true
  | .int _, .int _ => true | .bl _, .bl _ => true | .str _, .str _ => true | .byt _, .byt _ => true
  | .int _, .str _ => true | .str _, .int _ => true | .bl _, .str _ => true | .str _, .bl _ => true
  | _, _ => false
def rEq : R2 := fun x y H Q => scal x y = true ∧ Q (.bl (decide (x = y))) H
def rNe : R2 := fun x y H Q => scal x y = true ∧ Q (.bl (!decide (x = y))) H
theorem dec_int {i j : Int} : decide (V.int i = V.int j) = (i == j) := by
  rw [Bool.eq_iff_iff]
  simp
theorem dec_bl {i j : Bool} : decide (V.bl i = V.bl j) = (i == j) := by
  rw [Bool.eq_iff_iff]
  simp
theorem dec_str {i j : Str} : decide (V.str i = V.str j) = (i == j) := by
  rw [Bool.eq_iff_iff]
  simp
theorem dec_byt {i j : Array UInt8} : decide (V.byt i = V.byt j) = (i.toList == j.toList) := by
  rw [Bool.eq_iff_iff]
  cases i
  cases j
  simp
section
variable {X : Cx} {a b c : Expr} {ta tb tc : TE} {pos : Pos}
theorem fin_bl {pins : List (Addr × Obj)} {σ : St} {H : Hp} {s : Shared} {Q : VK} {k k' : Bool} (I : Inv X pins σ H s) (q : Q (.bl k) H) (e : k = k') : EP X pins σ Q (.bool k') s := by
  subst e
  exact ⟨.bl k, H, I, rfl, q⟩
theorem op_eq : OpR X (compareOp .Eq) rEq := by
  intro pins s σ H x y v u Q I rx ry h
  obtain ⟨hs, q⟩ := h
  cases x with
  | non =>
    cases rx
    cases y with
    | non => cases ry; exact PySem.EqNone.eq_none_none (fin_bl I q (by simp))
    | bl j => cases ry; exact PySem.EqNone.eq_none_bool (fin_bl I q (by simp))
    | int j => obtain ⟨t', rfl⟩ := ry; exact PySem.EqNone.eq_none_int (fin_bl I q (by simp))
    | str j => obtain ⟨t', rfl⟩ := ry; exact PySem.EqNone.eq_none_str (fin_bl I q (by simp))
    | _ => exact absurd (show false = true from hs) Bool.false_ne_true
  | bl i =>
    cases rx
    cases y with
    | non => cases ry; exact PySem.EqNone.eq_bool_none (fin_bl I q (by simp))
    | bl j => cases ry; exact eq_bool (fin_bl I q dec_bl)
    | str j => obtain ⟨t', rfl⟩ := ry; exact PySem.EqMixed.eq_bool_str (fin_bl I q (by simp))
    | _ => exact absurd (show false = true from hs) Bool.false_ne_true
  | int i =>
    obtain ⟨t, rfl⟩ := rx
    cases y with
    | non => cases ry; exact PySem.EqNone.eq_int_none (fin_bl I q (by simp))
    | int j => obtain ⟨t', rfl⟩ := ry; exact eq_int (fin_bl I q dec_int)
    | str j => obtain ⟨t', rfl⟩ := ry; exact PySem.EqMixed.eq_int_str (fin_bl I q (by simp))
    | _ => exact absurd (show false = true from hs) Bool.false_ne_true
  | str i =>
    obtain ⟨t, rfl⟩ := rx
    cases y with
    | non => cases ry; exact PySem.EqNone.eq_str_none (fin_bl I q (by simp))
    | bl j => cases ry; exact PySem.EqMixed.eq_str_bool (fin_bl I q (by simp))
    | int j => obtain ⟨t', rfl⟩ := ry; exact PySem.EqMixed.eq_str_int (fin_bl I q (by simp))
    | str j => obtain ⟨t', rfl⟩ := ry; exact eq_str (fin_bl I q dec_str)
    | _ => exact absurd (show false = true from hs) Bool.false_ne_true
  | byt i =>
    obtain ⟨t, rfl⟩ := rx
    cases y with
    | byt j => obtain ⟨t', rfl⟩ := ry; exact PySem.W.eq_bytes (fin_bl I q dec_byt)
    | _ => exact absurd (show false = true from hs) Bool.false_ne_true
  | _ => cases y <;> exact absurd (show false = true from hs) Bool.false_ne_true
theorem op_ne : OpR X (compareOp .NotEq) rNe := by
  intro pins s σ H x y v u Q I rx ry h
  obtain ⟨hs, q⟩ := h
  cases x with
  | non =>
    cases rx
    cases y with
    | non => cases ry; exact PySem.EqNone.ne_none_none (fin_bl I q (by simp))
    | bl j => cases ry; exact PySem.EqNone.ne_none_bool (fin_bl I q (by simp))
    | int j => obtain ⟨t', rfl⟩ := ry; exact PySem.EqNone.ne_none_int (fin_bl I q (by simp))
    | str j => obtain ⟨t', rfl⟩ := ry; exact PySem.EqNone.ne_none_str (fin_bl I q (by simp))
    | _ => exact absurd (show false = true from hs) Bool.false_ne_true
  | bl i =>
    cases rx
    cases y with
    | non => cases ry; exact PySem.EqNone.ne_bool_none (fin_bl I q (by simp))
    | bl j => cases ry; exact ne_bool (fin_bl I q (congrArg not dec_bl))
    | str j => obtain ⟨t', rfl⟩ := ry; exact PySem.EqMixed.ne_bool_str (fin_bl I q (by simp))
    | _ => exact absurd (show false = true from hs) Bool.false_ne_true
  | int i =>
    obtain ⟨t, rfl⟩ := rx
    cases y with
    | non => cases ry; exact PySem.EqNone.ne_int_none (fin_bl I q (by simp))
    | int j => obtain ⟨t', rfl⟩ := ry; exact ne_int (fin_bl I q (congrArg not dec_int))
    | str j => obtain ⟨t', rfl⟩ := ry; exact PySem.EqMixed.ne_int_str (fin_bl I q (by simp))
    | _ => exact absurd (show false = true from hs) Bool.false_ne_true
  | str i =>
    obtain ⟨t, rfl⟩ := rx
    cases y with
    | non => cases ry; exact PySem.EqNone.ne_str_none (fin_bl I q (by simp))
    | bl j => cases ry; exact PySem.EqMixed.ne_str_bool (fin_bl I q (by simp))
    | int j => obtain ⟨t', rfl⟩ := ry; exact PySem.EqMixed.ne_str_int (fin_bl I q (by simp))
    | str j => obtain ⟨t', rfl⟩ := ry; exact ne_str (fin_bl I q (congrArg not dec_str))
    | _ => exact absurd (show false = true from hs) Bool.false_ne_true
  | byt i =>
    obtain ⟨t, rfl⟩ := rx
    cases y with
    | byt j => obtain ⟨t', rfl⟩ := ry; exact PySem.W.ne_bytes (fin_bl I q (congrArg not dec_byt))
    | _ => exact absurd (show false = true from hs) Bool.false_ne_true
  | _ => cases y <;> exact absurd (show false = true from hs) Bool.false_ne_true
theorem op_lt : OpR X (compareOp .Lt) (rI0 fun i j => .bl (decide (i < j))) := opB0 fun _ _ _ _ _ _ _ q => lt_int q
theorem op_le : OpR X (compareOp .LtE) (rI0 fun i j => .bl (decide (i ≤ j))) := opB0 fun _ _ _ _ _ _ _ q => le_int q
theorem op_gt : OpR X (compareOp .Gt) (rI0 fun i j => .bl (decide (j < i))) := opB0 fun _ _ _ _ _ _ _ q => gt_int q
theorem op_ge : OpR X (compareOp .GtE) (rI0 fun i j => .bl (decide (j ≤ i))) := opB0 fun _ _ _ _ _ _ _ q => ge_int q
theorem op_isN : OpR X (compareOp .Is) (fun x y H Q => y = .non ∧ Q (.bl (decide (x = .non))) H) := by
  intro pins s σ H x y v u Q I rx ry h
  obtain ⟨rfl, q⟩ := h
  cases ry
  refine is_none_gen (fin_bl I q ?_)
  cases x <;> first
    | (cases rx; rfl)
    | (obtain ⟨t, rfl⟩ := rx; rfl)
theorem op_notN : OpR X (compareOp .IsNot) (fun x y H Q => y = .non ∧ Q (.bl (!decide (x = .non))) H) := by
  intro pins s σ H x y v u Q I rx ry h
  obtain ⟨rfl, q⟩ := h
  cases ry
  refine isnot_none_gen (fin_bl I q ?_)
  cases x <;> first
    | (cases rx; rfl)
    | (obtain ⟨t, rfl⟩ := rx; rfl)
theorem OpR.or {f : Value → Value → Sem Value} {r r' : R2} (h : OpR X f r) (h' : OpR X f r') : OpR X f (fun x y H Q => r x y H Q ∨ r' x y H Q) := by
  intro pins s σ H x y v u Q I rx ry q
  rcases q with q | q
  · exact h pins s σ H x y v u Q I rx ry q
  · exact h' pins s σ H x y v u Q I rx ry q
theorem nomark (b : Expr) {op : CmpOp} (h : op ≠ .In := by decide) (h2 : op ≠ .NotIn := by decide) : behindInMarks op b = false := by
  have e1 : (op == CmpOp.In) = false := by cases op <;> first | rfl | exact absurd rfl h
  have e2 : (op == CmpOp.NotIn) = false := by cases op <;> first | rfl | exact absurd rfl h2
  cases b <;> simp [behindInMarks, e1, e2]
theorem pe_cmpR {op : CmpOp} {r : R2} (ho : OpR X (compareOp op) r) (ha : PE X a ta) (hb : PE X b tb) (hm : behindInMarks op b = false) : PE X (.Compare a [op] [b] pos) (tOp r ta tb) := by
  intro pins s σ H Q I h
  exact wpAny_Compare1 (binT ha hb I h fun v u s2 x y H2 I2 rx ry q => ho pins s2 σ H2 x y v u Q I2 rx ry q) hm
def tTest (t : TE) : TT := fun σ H Q => t σ H fun x H' => ∃ k, x = .bl k ∧ Q k H'
theorem pt_cmpR {op : CmpOp} {r : R2} (ho : OpR X (compareOp op) r) (ha : PE X a ta) (hb : PE X b tb) (hm : behindInMarks op b = false) : PT X (.Compare a [op] [b] pos) (tTest (tOp r ta tb)) := by
  intro pins s σ H Q I h
  refine wpAny_isTrue_Compare1 (thn (ha pins s σ H _ I h) fun v s1 ⟨x, H1, I1, r1, q1⟩ => thn (hb pins s1 σ H1 _ I1 q1) fun u s2 ⟨y, H2, I2, r2, q2⟩ =>
    thn (ho pins s2 σ H2 x y v u _ I2 r1 r2 q2) fun c s3 ⟨z, H3, I3, r3, k, e, q3⟩ => ?_) hm
  subst e
  cases r3
  exact wpAny_truthy_bool ⟨H3, I3, q3⟩
def tChain (r r' : R2) (ta tb tc : TE) : TE := fun σ H Q => ta σ H fun x H1 => tb σ H1 fun y H2 => r x y H2 fun z H3 => ∃ k, z = .bl k ∧
  (if k = true then tc σ H3 fun w' H4 => r' y w' H4 Q else Q (.bl false) H3)
theorem pe_chain {op op' : CmpOp} {r r' : R2} (ho : OpR X (compareOp op) r) (ho' : OpR X (compareOp op') r') (ha : PE X a ta) (hb : PE X b tb) (hc : PE X c tc)
    (hm : lastMarks [op, op'] [b, c] = false := by with_unfolding_all rfl) : PE X (.Compare a [op, op'] [b, c] pos) (tChain r r' ta tb tc) := by
  intro pins s σ H Q I h
  refine Compare_chain (thn (ha pins s σ H _ I h) fun v s1 ⟨x, H1, I1, r1, q1⟩ => chain_link (thn (hb pins s1 σ H1 _ I1 q1) fun u s2 ⟨y, H2, I2, r2, q2⟩ =>
    thn (ho pins s2 σ H2 x y v u _ I2 r1 r2 q2) fun d s3 ⟨z, H3, I3, r3, k, e, q3⟩ => ?_)) hm
  subst e
  cases r3
  refine wpAny_truthy_bool ?_
  cases k with
  | false => exact ite_ff ⟨.bl false, H3, I3, rfl, q3⟩
  | true => exact ite_tt (chain_last (thn (hc pins s3 σ H3 _ I3 q3) fun w' s4 ⟨z', H4, I4, r4, q4⟩ => ho' pins s4 σ H4 y z' u w' Q I4 r2 r4 q4))
theorem pt_chain {op op' : CmpOp} {r r' : R2} (ho : OpR X (compareOp op) r) (ho' : OpR X (compareOp op') r') (ha : PE X a ta) (hb : PE X b tb) (hc : PE X c tc)
    (hm : lastMarks [op, op'] [b, c] = false := by with_unfolding_all rfl) : PT X (.Compare a [op, op'] [b, c] pos) (tTest (tChain r r' ta tb tc)) := by
  intro pins s σ H Q I h
  refine isTrue_chain (thn (ha pins s σ H _ I h) fun v s1 ⟨x, H1, I1, r1, q1⟩ => test_link (thn (hb pins s1 σ H1 _ I1 q1) fun u s2 ⟨y, H2, I2, r2, q2⟩ =>
    thn (ho pins s2 σ H2 x y v u _ I2 r1 r2 q2) fun d s3 ⟨z, H3, I3, r3, k, e, q3⟩ => ?_)) hm
  subst e
  cases r3
  refine wpAny_truthy_bool ?_
  cases k with
  | false =>
    obtain ⟨k', e', q'⟩ := q3
    cases e'
    exact ite_ff ⟨H3, I3, q'⟩
  | true =>
    refine ite_tt (test_last (thn (hc pins s3 σ H3 _ I3 q3) fun w' s4 ⟨z', H4, I4, r4, q4⟩ => thn (ho' pins s4 σ H4 y z' u w' _ I4 r2 r4 q4) fun d' s5 ⟨z2, H5, I5, r5, k2, e2, q5⟩ => ?_))
    subst e2
    cases r5
    exact wpAny_truthy_bool ⟨H5, I5, q5⟩
theorem line63 : (sizeLine : Nat) < 2 ^ 63 := by rw [sizeLine_eq]; decide
theorem vals1 {x : V} {us : List Value} (r : Vals [x] us) : ∃ u, us = [u] ∧ RelV x u := by
  cases r with
  | cons r1 r2 => cases r2; exact ⟨_, rfl, r1⟩
theorem vals2 {x y : V} {us : List Value} (r : Vals [x, y] us) : ∃ u w', us = [u, w'] ∧ RelV x u ∧ RelV y w' := by
  cases r with
  | cons r1 r2 =>
    cases r2 with
    | cons r3 r4 => cases r4; exact ⟨_, _, rfl, r1, r3⟩
end
end L2
namespace L2
open PySem PySem.Spec PyProof.Rows
structure ObjM (h : Heap) (x dx C : Addr) (mA : Str → Option Value) : Prop where
  obj : h.get? x = some (PySem.W.instObj C dx)
  ns : h.Ns1 dx mA
  ne : dx ≠ x
theorem lookIn_ns {h : Heap} {dx : Addr} {mA : Str → Option Value} (n : h.Ns1 dx mA) : ∃ od, h.get? dx = some od ∧ ∀ name, PySem.W.lookIn name od = some (mA name) := by
  obtain ⟨o, es, ep, ho, hd, hk, _, hm⟩ := n
  refine ⟨o, ho, fun name => ?_⟩
  have e := hm name
  unfold nsFind findBy at e
  rw [← Array.find?_toList] at e
  unfold PySem.W.lookIn
  rw [hd]
  dsimp only
  split
  · rename_i y q
    rw [q] at e
    exact congrArg some e
  · rename_i q
    rw [q] at e
    have a : es.toList.any (·.refKey) = false := by
      rw [List.any_eq_false]
      intro y hy
      obtain ⟨z, t, hkey⟩ := hk y (Array.mem_toList_iff.mp hy)
      simp [DictEntry.refKey, hkey]
    have a' : ¬ es.toList.any (·.refKey) = true := by rw [a]; exact Bool.false_ne_true
    rw [if_neg a']
    exact congrArg some e
theorem ObjM.look {h : Heap} {x dx C : Addr} {mA : Str → Option Value} (I : ObjM h x dx C mA) : ∃ od, PySem.W.InstAt h x (PySem.W.instObj C dx) C (some od) ∧ ∀ name, PySem.W.lookIn name od = some (mA name) :=
  let ⟨od, ho, hl⟩ := lookIn_ns I.ns
  ⟨od, ⟨I.obj, rfl, rfl, ho⟩, hl⟩
section
variable {prog : Program} {w : World} {A : Around} {E : Value → Shared → Prop} {s : Shared} {K : PySem.W.Frag} {x dx C f : Addr} {mA : Str → Option Value} {name : Str} {v : Value}
theorem get_map {expr : Bool} {Q : Value → Shared → Prop} (X : K.In s.heap) (I : ObjM s.heap x dx C mA) (hg : PySem.W.plainGet K C name = true) (hh : PySem.W.hasDictIn K C = true)
    (ha : PySem.W.findIn K (.ref C) name = some none) (hv : mA name = some v) (hv' : PySem.W.handedIn v = true) (h : Q v { s with toks := s.toks + 1 }) :
    wpAny (model prog w) A (getAttr (.ref x) name expr) Q E s := by
  obtain ⟨od, J, hl⟩ := I.look
  exact PySem.W.get_value X J (PySem.W.plainGet_of hg).1 (PySem.W.findObj_own hh ha rfl (by rw [hl, hv])) hv' h
theorem get_meth {pl : Sem Bool} {Q : Value × List Value → Shared → Prop} (X : K.In s.heap) (I : ObjM s.heap x dx C mA) (hg : PySem.W.plainGet K C name = true)
    (hf : PySem.W.findIn K (.ref C) name = some (some (.ref f))) (ht : PySem.W.isFn K (.ref f) = true) (hv : mA name = none) (h : Q (.ref f, [.ref x]) s) :
    wpAny (model prog w) A (getMethod (.ref x) name pl) Q E s := by
  obtain ⟨od, J, hl⟩ := I.look
  exact PySem.W.method_fn X J (PySem.W.plainGet_of hg).1 (PySem.W.plainGet_of hg).2 hf (beq_iff_eq.mp ht) (by show (PySem.W.lookIn name od).map (·.isSome) = some false; rw [hl, hv]; rfl) h
theorem set_map {ns : List Str} {Q : Unit → Shared → Prop} (X : K.In s.heap) (I : ObjM s.heap x dx C mA)
    (hs : PySem.W.findIn K (.ref C) "__setattr__" = some (some (.builtin "object.__setattr__"))) (hp : PySem.W.plainOver K C = true) (ht : PySem.W.takerIn K C name = some none) (hh : PySem.W.hasDictIn K C = true)
    (hw : PySem.Within mA ns) (hsz : ns.length ≤ sizeLine)
    (h : ∀ h', ObjM h' x dx C (fun y => if y = name then some v else mA y) → Heap.SameBut dx s.heap h' → Q () { s with heap := h', toks := s.toks + 2 }) :
    wpAny (model prog w) A (setAttr (.ref x) name v) Q E s := by
  obtain ⟨od, J, hl⟩ := I.look
  refine PySem.W.set_plain X J hs (PySem.W.osa_open (s := { s with toks := s.toks + 1 }) (r := none) X J hp ht fun b => ?_)
  obtain ⟨cd, hc, hd'⟩ := PySem.W.any_some hh
  have hx : s.heap.get? x = some ⟨.ref C, some dx, .plain, #[]⟩ := I.obj
  refine wpAny_bind (wpAny_pure (wpAny_bind (wpAny_bind (wpAny_loadPart hx (wpAny_bind (PySem.W.Looks.here (s := { s with toks := s.toks + 1 }) (PySem.W.looks_clsIn X hc) ?_))))))
  rw [hd']
  refine wpAny_pure (a := some dx) (wpAny_bind (wpAny_pure (wpAny_bind ?_)))
  refine wpAny_nsSet1 (s := { s with toks := s.toks + 1 }) I.ns fun h' hn2 hs2 => ?_
  obtain ⟨oD, esD, epD, hoD, hdD, hcD⟩ := hn2.count (PySem.Within.cons name v hw)
  refine wpAny_bind (wpAny_lookBehind hoD (by rw [hdD]; exact pastItsLine_dict (Nat.le_trans hcD (by rw [List.length_cons]; omega))) ?_)
  exact wpAny_pure (h _ ⟨(hs2.2 _ (Ne.symm I.ne)).trans I.obj, hn2, I.ne⟩ hs2)
theorem make_map {R : Result → Shared → Prop} {vs : List Value} {kw : List (Str × Value)} (X : K.In s.heap) (hm : PySem.W.makesIn K C = true)
    (hi : PySem.W.findIn K (.ref C) "__init__" = some (some (.ref f))) (hf : PySem.W.typeIn K (.ref f) = some (.type "function"))
    (h : codeAny (model prog w) (A.under (.builtin "type.__call__" ⟨.ref C :: vs, kw⟩)) (.call (.ref f) ⟨.ref (s.heap.objs.size + 1) :: vs, kw⟩) (PySem.W.InitBack (s.heap.objs.size + 1) R)
      { s with heap := (s.heap.push PySem.W.emptyDict).push (PySem.W.instObj C s.heap.objs.size) }) :
    codeAny (model prog w) A (.call (.ref C) ⟨vs, kw⟩) R s := by
  obtain ⟨hh, g, d, t, os⟩ := s
  exact PySem.W.make_core (PySem.W.makes_of X hm) (PySem.W.looks_findIn X hi) (fun self => PySem.W.bind_fn X self hf) (.inl rfl) h
end
def putF (f : Str) (v : V) : List (Str × V) → List (Str × V)
  | [] => [(f, v)]
  | (g, x) :: r => if g = f then (g, v) :: r else (g, x) :: putF f v r
theorem lookup_putF (f g : Str) (v : V) : ∀ fs : List (Str × V), (putF f v fs).lookup g = if g = f then some v else fs.lookup g
  | [] => by
    show List.lookup g [(f, v)] = _
    by_cases h : g = f
    · have hb : (g == f) = true := beq_iff_eq.mpr h
      simp only [List.lookup, hb, if_pos h]
    · have hb : (g == f) = false := beq_eq_false_iff_ne.mpr h
      simp only [List.lookup, hb, if_neg h]
  | (k, x) :: r => by
    have ih := lookup_putF f g v r
    rw [show putF f v ((k, x) :: r) = (if k = f then (k, v) :: r else (k, x) :: putF f v r) from rfl]
    by_cases hk : k = f
    · rw [if_pos hk]
      by_cases h : g = k
      · have hb : (g == k) = true := beq_iff_eq.mpr h
        simp only [List.lookup, hb, if_pos (h.trans hk)]
      · have hb : (g == k) = false := beq_eq_false_iff_ne.mpr h
        simp only [List.lookup, hb, if_neg (fun e : g = f => h (e.trans hk.symm))]
    · rw [if_neg hk]
      by_cases h : g = k
      · have hb : (g == k) = true := beq_iff_eq.mpr h
        simp only [List.lookup, hb, if_neg (fun e : g = f => hk (h.symm.trans e))]
      · have hb : (g == k) = false := beq_eq_false_iff_ne.mpr h
        simp only [List.lookup, hb]
        exact ih
theorem keys_putF (f : Str) (v : V) : ∀ fs : List (Str × V), f ∈ (putF f v fs).map (·.1) ∧ ∀ g, g ∈ fs.map (·.1) → g ∈ (putF f v fs).map (·.1)
  | [] => ⟨by simp [putF], fun g h => by simp at h⟩
  | (k, x) :: r => by
    obtain ⟨i1, i2⟩ := keys_putF f v r
    rw [show putF f v ((k, x) :: r) = (if k = f then (k, v) :: r else (k, x) :: putF f v r) from rfl]
    by_cases hk : k = f
    · rw [if_pos hk]
      subst hk
      exact ⟨by simp, fun g h => by simpa using h⟩
    · rw [if_neg hk]
      refine ⟨?_, fun g h => ?_⟩
      · rw [List.map_cons]
        exact List.mem_cons_of_mem _ i1
      · rw [List.map_cons] at h ⊢
        rcases List.mem_cons.mp h with e | e
        · exact List.mem_cons.mpr (.inl e)
        · exact List.mem_cons_of_mem _ (i2 g e)
theorem length_putF (f : Str) (v : V) : ∀ fs : List (Str × V), (putF f v fs).length ≤ fs.length + 1
  | [] => by simp [putF]
  | (k, x) :: r => by
    have ih := length_putF f v r
    rw [show putF f v ((k, x) :: r) = (if k = f then (k, v) :: r else (k, x) :: putF f v r) from rfl]
    by_cases hk : k = f
    · rw [if_pos hk, List.length_cons, List.length_cons]; omega
    · rw [if_neg hk, List.length_cons, List.length_cons]; omega
theorem RelO.some_of {v : V} {o : Option Value} (r : RelO (some v) o) : ∃ u, o = some u ∧ RelV v u := by
  cases o with
  | none => exact (show False from r).elim
  | some u => exact ⟨u, rfl, r⟩
theorem RelO.none_of {o : Option Value} (r : RelO none o) : o = none := by
  cases o with
  | none => rfl
  | some u => exact (show False from r).elim
theorem handed_of {v : V} {u : Value} (r : RelV v u) : PySem.W.handedIn u = true := by
  cases v with
  | non => cases (show u = Value.none from r); rfl
  | bl b => cases (show u = Value.bool b from r); rfl
  | int i => obtain ⟨t, e⟩ := (show ∃ t, u = Value.int i t from r); cases e; rfl
  | str x => obtain ⟨t, e⟩ := (show ∃ t, u = Value.str x t from r); cases e; rfl
  | byt b => obtain ⟨t, e⟩ := (show ∃ t, u = Value.bytes b t from r); cases e; rfl
  | flt b => obtain ⟨t, e⟩ := (show ∃ t, u = Value.float b t from r); cases e; rfl
  | ref a => cases (show u = Value.ref a from r); rfl
  | ty n => cases (show u = Value.type n from r); rfl
section
variable {P : Program} {w : World} {H H' : Hp} {h h' : Heap} {a C dx : Addr} {fs fs' : List (Str × V)}
theorem ins_get (hok : HOk P w H h) (e : H a = some (.ins C dx fs)) : ∃ mA, ObjM h a dx C mA ∧ (∀ f, RelO (fs.lookup f) (mA f)) ∧ PySem.Within mA (fs.map (·.1)) ∧ fs.length ≤ 1000 ∧ H dx = some (.own a) := by
  obtain ⟨d, z, ne, ob, mA, n, r, q⟩ := (show ObjOk P w H h a (.ins C dx fs) from hok a _ e)
  exact ⟨mA, ⟨ob, n, ne⟩, r, q, z, d⟩
end
structure Cls (K : PySem.W.Frag) (C : Addr) : Prop where
  pg : PySem.W.plainGet K C Str.empty = true
  hd : PySem.W.hasDictIn K C = true
  po : PySem.W.plainOver K C = true
  sa : PySem.W.findIn K (.ref C) "__setattr__" = some (some (.builtin "object.__setattr__"))
theorem Cls.get {K : PySem.W.Frag} {C : Addr} (c : Cls K C) (f : Str) : PySem.W.plainGet K C f = true := c.pg
def NoAttr (K : PySem.W.Frag) (C : Addr) (f : Str) : Prop := PySem.W.findIn K (.ref C) f = some none
theorem NoAttr.taker {K : PySem.W.Frag} {C : Addr} {f : Str} (n : NoAttr K C f) : PySem.W.takerIn K C f = some none := by
  unfold PySem.W.takerIn
  rw [show PySem.W.findIn K (.ref C) f = some none from n]
  rfl
structure Meth (K : PySem.W.Frag) (C : Addr) (m : Str) (f : Addr) : Prop where
  at_ : PySem.W.findIn K (.ref C) m = some (some (.ref f))
  fn : PySem.W.isFn K (.ref f) = true
  kp : PySem.W.keepIn K (.ref f) = true
section
variable {X : Cx} {pins : List (Addr × Obj)} {σ : St} {H : Hp} {s : Shared} {a C dx : Addr} {fs : List (Str × V)} {f : Str} {v : V} {A : Around} {E : Value → Shared → Prop}
theorem getattr_ok {b : Bool} {Q : Value → Shared → Prop} (I : Inv X pins σ H s) (e : H a = some (.ins C dx fs)) (c : Cls X.K C) (n : NoAttr X.K C f) (l : fs.lookup f = some v)
    (h : ∀ u s', Inv X pins σ H s' → RelV v u → Q u s') : wpAny (model X.prog X.w) A (getAttr (.ref a) f b) Q E s := by
  obtain ⟨mA, O, r, _, _, _⟩ := ins_get I.hok e
  obtain ⟨u, hu, ru⟩ := RelO.some_of (v := v) (o := mA f) (by rw [← l]; exact r f)
  exact get_map I.kIn O (c.get f) c.hd n hu (handed_of ru) (h u _ (I.tok _) ru)
theorem getmeth_ok {m : Str} {g : Addr} {pl : Sem Bool} {Q : Value × List Value → Shared → Prop} (I : Inv X pins σ H s) (e : H a = some (.ins C dx fs)) (c : Cls X.K C) (k : Meth X.K C m g) (l : fs.lookup m = none)
    (h : Q (.ref g, [.ref a]) s) : wpAny (model X.prog X.w) A (getMethod (.ref a) m pl) Q E s := by
  obtain ⟨mA, O, r, _, _, _⟩ := ins_get I.hok e
  have hn : mA m = none := RelO.none_of (by rw [← l]; exact r m)
  exact get_meth I.kIn O (c.get m) k.at_ k.fn hn h
theorem setattr_ok {y : V} {u : Value} {Q : Unit → Shared → Prop} (I : Inv X pins σ H s) (e : H a = some (.ins C dx fs)) (c : Cls X.K C) (n : NoAttr X.K C f) (hl : fs.length < 1000) (ry : RelV y u)
    (h : ∀ s', Inv X pins σ (upd H a (.ins C dx (putF f y fs))) s' → Q () s') : wpAny (model X.prog X.w) A (setAttr (.ref a) f u) Q E s := by
  obtain ⟨mA, O, r, wi, _, ho⟩ := ins_get I.hok e
  have hz : (fs.map (·.1)).length ≤ sizeLine := by rw [List.length_map, sizeLine_eq]; omega
  refine set_map I.kIn O c.sa c.po n.taker c.hd wi hz fun h' O' sb => h _ ?_
  have hd : ∃ o, h'.get? dx = some o := let ⟨o, _, _, e', _⟩ := O'.ns; ⟨o, e'⟩
  refine I.write (x := a) (e := dx) (by rw [e]; exact True.intro) (.inr ho) (fun b q hb z => (sb.2 b hb).trans z) hd ?_
  refine ⟨by rw [upd_ne O.ne]; exact ho, ?_, O.ne, O'.obj, _, O'.ns, fun g => ?_, fun g hg => ?_⟩
  · have := length_putF f y fs; omega
  · show RelO ((putF f y fs).lookup g) (if g = f then some u else mA g)
    rw [lookup_putF]
    by_cases q : g = f
    · rw [if_pos q, if_pos q]; exact ry
    · rw [if_neg q, if_neg q]; exact r g
  · by_cases q : g = f
    · rw [q]; exact (keys_putF f y fs).1
    · refine (keys_putF f y fs).2 g (wi g fun z => hg ?_)
      show (if g = f then some u else mA g) = none
      rw [if_neg q]; exact z
theorem Inv.made (I : Inv X pins σ H s) : Inv X pins σ (upd (upd H s.heap.objs.size (.own (s.heap.objs.size + 1))) (s.heap.objs.size + 1) (.ins C s.heap.objs.size []))
    { s with heap := (s.heap.push PySem.W.emptyDict).push (PySem.W.instObj C s.heap.objs.size) } := by
  have e1 : (s.heap.push PySem.W.emptyDict).get? s.heap.objs.size = some PySem.W.emptyDict := Heap.get?_push_size s.heap rfl
  have e2 : ((s.heap.push PySem.W.emptyDict).push (PySem.W.instObj C s.heap.objs.size)).get? (s.heap.objs.size + 1) = some (PySem.W.instObj C s.heap.objs.size) := by
    have := Heap.get?_push_size (s.heap.push PySem.W.emptyDict) (o := PySem.W.instObj C s.heap.objs.size) rfl
    rwa [Heap.size_push] at this
  have e3 : (s.heap.push PySem.W.emptyDict).Ns s.heap.objs.size (fun _ => none) := ⟨PySem.W.emptyDict, #[], _, e1, rfl, (fun e he => absurd he (by simp)), fun _ => rfl⟩
  have I1 := I.laid (a := s.heap.objs.size) (o := .own (s.heap.objs.size + 1)) (h' := s.heap.push PySem.W.emptyDict) (t' := s.toks) (fun b u q => Heap.get?_push_of_some _ q) (Nat.le_refl _) ⟨_, e1⟩
  refine I1.laid (a := s.heap.objs.size + 1) (o := .ins C s.heap.objs.size []) (t' := s.toks) (fun b u q => Heap.get?_push_of_some _ q) (Nat.le_of_eq (Heap.size_push _ _)) ?_
  have ne : s.heap.objs.size ≠ s.heap.objs.size + 1 := Nat.ne_of_lt (Nat.lt_succ_self _)
  refine ⟨by rw [upd_ne ne, upd_same], Nat.zero_le _, ne, e2, fun _ => none, (Heap.Ns1.of_empty e3).at fun o q => Heap.get?_push_of_some _ q, fun _ => True.intro, fun y hy => absurd rfl hy⟩
theorem attr_of {prog : Program} {w : World} {env : Env} {e : Expr} {f : Str} {pos : Pos} {s : Shared} {Q : Value → Shared → Prop} (hb : attributeBase e f env (eval e env) = eval e env)
    (h : wpAny (model prog w) A (eval e env) (fun o s₁ => wpAny (model prog w) A (getAttr o f true) Q E s₁) E s) : wpAny (model prog w) A (eval (.Attribute e f pos) env) Q E s :=
  Attribute_any_ h (by rw [arm_eval_Attribute, hb])
end
def tFld (K : PySem.W.Frag) (ta : TE) (f : Str) : TE := fun σ H Q => ta σ H fun x H1 => ∃ a C dx fs v, x = .ref a ∧ H1 a = some (.ins C dx fs) ∧ Cls K C ∧ NoAttr K C f ∧ fs.lookup f = some v ∧ Q v H1
def sFld (K : PySem.W.Frag) (ta tv : TE) (f : Str) : TS := fun D σ H => tv σ H fun y H1 => ta σ H1 fun x H2 => ∃ a C dx fs, x = .ref a ∧ H2 a = some (.ins C dx fs) ∧ Cls K C ∧ NoAttr K C f ∧ fs.length < 1000 ∧
  D.nx σ (upd H2 a (.ins C dx (putF f y fs)))
section
variable {X : Cx} {o e value : Expr} {f : Str} {pos pos' tpos : Pos} {ta tv : TE}
theorem pe_fld (he : PE X e ta) (hb : attributeBase e f X.env (eval e X.env) = eval e X.env) : PE X (.Attribute e f pos) (tFld X.K ta f) := by
  intro pins s σ H Q I h
  refine attr_of hb (thn (he pins s σ H _ I h) fun u s1 ⟨x, H1, I1, rx, a, C, dx, fs, v, ex, ea, c, n, l, q⟩ => ?_)
  subst ex
  obtain rfl : u = Value.ref a := rx
  exact getattr_ok I1 ea c n l fun u' s2 I2 ru => ⟨v, H1, I2, ru, q⟩
theorem ps_fld (ha : PE X o ta) (hv : PE X value tv) (hs : swapsWith value (some (.Attribute o f pos')) pos.line X.env = pure false) : PS X (.Assign [.Attribute o f pos'] value pos) (sFld X.K ta tv f) := by
  intro pins s σ H D I h
  refine plainObj_wpAny_Assign_Attribute (thn (hv pins s σ H _ I h) fun u s1 ⟨y, H1, I1, ry, q⟩ => thn (ha pins s1 σ H1 _ I1 q) fun ov s2 ⟨x, H2, I2, rx, a, C, dx, fs, ex, ea, c, n, l, q2⟩ => ?_) hs
  subst ex
  obtain rfl : ov = Value.ref a := rx
  exact setattr_ok I2 ea c n l ry fun s3 I3 => ⟨σ, _, I3, q2⟩
end
section
variable {X : Cx} {pins : List (Addr × Obj)} {σ : St} {H : Hp} {s : Shared} {A : Around} {E : Value → Shared → Prop} {Q : Value → Shared → Prop} {c : Value} {b : Bool}
end
end L2
namespace L2
open PySem PySem.Spec PyProof.Rows
structure Room (k : Nat) (A : Around) : Prop where
  hd : A.handled = none
  dp : A.depth + 3 * k + 5 < recursionLimit
  un : A.units + 16 * k + 200 < cLine
theorem Room.mono {j k : Nat} {A : Around} (r : Room k A) (h : j ≤ k) : Room j A := ⟨r.hd, by have := r.dp; omega, by have := r.un; omega⟩
theorem Room.deeper {k : Nat} {A : Around} (r : Room (k + 1) A) (env : Env) : Room k (A.deeper env) :=
  ⟨r.hd, by have := r.dp; show A.depth + 1 + 3 * k + 5 < _; omega, by have := r.un; show A.units + 3 + 16 * k + 200 < _; omega⟩
theorem Room.in1 {k : Nat} {A : Around} (r : Room (k + 1) A) : Room k A.in1 :=
  ⟨r.hd, by have := r.dp; show A.depth + 3 * k + 5 < _; omega, by have := r.un; show A.units + 1 + 16 * k + 200 < _; omega⟩
theorem make_depth {A : Around} {C : Addr} {us : List Value} {kw : List (Str × Value)} : (A.under (.builtin "type.__call__" ⟨.ref C :: us, kw⟩)).depth = A.depth + 1 := by
  first | rfl | simp [Around.under, Code.weight, Code.isCreation, Code.isGuard, Code.isCaller, Code.frames, Code.isFrame, guardIds]
theorem make_units {A : Around} {C : Addr} {us : List Value} {kw : List (Str × Value)} : (A.under (.builtin "type.__call__" ⟨.ref C :: us, kw⟩)).units = A.units + 1 := by
  first | rfl | simp [Around.under, Code.cUnits, Code.frames, Code.isFrame]
theorem Room.make {k : Nat} {A : Around} (r : Room (k + 1) A) (C : Addr) (us : List Value) (kw : List (Str × Value)) : Room k (A.under (.builtin "type.__call__" ⟨.ref C :: us, kw⟩)) :=
  ⟨r.hd, by have := r.dp; rw [make_depth]; omega, by have := r.un; rw [make_units]; omega⟩
theorem Room.depth {k : Nat} {A : Around} (r : Room k A) : A.depth < recursionLimit := by have := r.dp; omega
theorem Room.units {k : Nat} {A : Around} (r : Room k A) : A.units + 64 < cLine := by have := r.un; omega
theorem Room.units0 {k : Nat} {A : Around} (r : Room k A) : A.units < cLine := by have := r.un; omega
def tNil : TA := fun _ H Q => Q [] H
def tCons (ta : TE) (tr : TA) : TA := fun σ H Q => ta σ H fun x H1 => tr σ H1 fun xs H2 => Q (x :: xs) H2
section
variable {X : Cx} {e : Expr} {es : List Expr} {te : TE} {t : TA} {pos : Pos}
theorem pa_nil : PA X [] tNil := fun _ _ _ _ H Q I h => Calls.spliced_nil ⟨[], H, I, .nil, h⟩
theorem pa_cons (ha : PE X e te) (hr : PA X es t) (hs : starEach (e :: es) X.env = (false, eval e X.env) :: starEach es X.env := by rfl) : PA X (e :: es) (tCons te t) := by
  intro pos pins s σ H Q I h
  rw [hs]
  show wpAny _ _ (spliced ((false, eval e X.env) :: backTo pos (starEach es X.env))) _ _ s
  refine Calls.spliced_cons (thn (ha pins s σ H _ I h) fun u s1 ⟨x, H1, I1, r1, q1⟩ => ?_)
  exact thn (hr pos pins s1 σ H1 _ I1 q1) fun us s2 ⟨xs, H2, I2, r2, q2⟩ => ⟨x :: xs, H2, I2, .cons r1 r2, q2⟩
def tTup (t : TA) : TE := fun σ H Q => t σ H fun xs H1 => xs.length ≤ sizeLine ∧ ∀ p, H1 p = none → Q (.ref p) (upd H1 p (.tup xs))
def tLst (t : TA) : TE := fun σ H Q => t σ H fun xs H1 => xs.length ≤ sizeLine ∧ ∀ p, H1 p = none → Q (.ref p) (upd H1 p (.lst xs))
theorem pe_tup {x1} (h : PA X es t) : PE X (.Tuple es x1 pos) (tTup t) := by
  intro pins s σ H Q I hq
  refine wpAny_Tuple_spliced (thn (h pos pins s σ H _ I hq) fun us s1 ⟨xs, H1, I1, r, z, q⟩ => ⟨by rw [← r.length]; exact z, ?_⟩)
  have hf : H1 s1.heap.objs.size = none := I1.hok.fresh (Nat.le_refl _)
  refine ⟨.ref s1.heap.objs.size, upd H1 s1.heap.objs.size (.tup xs), I1.laid (t' := s1.toks) (fun b u e => Heap.get?_push_of_some _ e) (Nat.le_refl _) ?_, rfl, q _ hf⟩
  exact ⟨z, us, r, ⟨_, Heap.get?_push_size _ rfl, rfl, _, rfl⟩⟩
theorem pe_lst (h : PA X es t) : PE X (.List es pos) (tLst t) := by
  intro pins s σ H Q I hq
  refine wpAny_List_spliced (thn (h pos pins s σ H _ I hq) fun us s1 ⟨xs, H1, I1, r, z, q⟩ => ⟨by rw [← r.length]; exact z, ?_⟩)
  have hf : H1 s1.heap.objs.size = none := I1.hok.fresh (Nat.le_refl _)
  refine ⟨.ref s1.heap.objs.size, upd H1 s1.heap.objs.size (.lst xs), I1.laid (t' := s1.toks) (fun b u e => Heap.get?_push_of_some _ e) (Nat.le_refl _) ?_, rfl, q _ hf⟩
  exact ⟨z, us, 0, r, Heap.get?_push_size _ rfl⟩
end
abbrev Sp := List V → Hp → VK → XK → Prop
abbrev CXT := List Env → Hp → Shared → XK → Value → Shared → Prop
structure Env0 (P : Program) (w : World) (K : PySem.W.Frag) (mg : Str → Option Value) (base : Heap) (A : Around) (outer : List Env) (s : Shared) (H : Hp) : Prop where
  frames : A.frames = some outer
  mod : Mod K mg base
  bs : ∀ b o, base.get? b = some o → s.heap.get? b = some o ∧ H b = none
  bsz : base.objs.size ≤ s.heap.objs.size
  funs : s.heap.FunFrames base outer
  frf : ∀ b ∈ frs outer, H b = none
  hok : HOk P w H s.heap
  bare : AllBare s.gens
def CE (outer : List Env) (P : Program) (w : World) (H : Hp) (s : Shared) (Q : VK) (u : Value) (s' : Shared) : Prop :=
  ∃ v H', s'.os = s.os ∧ AllBare s'.gens ∧ Un (frs outer) [] H H' s.heap s'.heap ∧ HOk P w H' s'.heap ∧ RelV v u ∧ Q v H'
def CR (CX : CXT) (outer : List Env) (P : Program) (w : World) (H : Hp) (s : Shared) (Q : VK) (E : XK) (r : Result) (s' : Shared) : Prop :=
  match r with
  | .ok (.ret u) => CE outer P w H s Q u s'
  | .ok _ => False
  | .error e => CX outer H s E e s'
structure FnOk (P : Program) (w : World) (K : PySem.W.Frag) (mg : Str → Option Value) (base : Heap) (CX : CXT) (k : Nat) (f : Addr) (fd : FuncData) (ps : List Str) (sp : Sp) : Prop where
  len : ∀ vs H Q E, sp vs H Q E → vs.length = ps.length
  run : ∀ (A : Around) (outer : List Env) (s : Shared) (H : Hp) (args : Args) (us : List Value) (vs : List V) (Q : VK) (E : XK), Room k A → Env0 P w K mg base A outer s H → BindsTo s fd args (ps.zip us) → Vals vs us → sp vs H Q E →
    codeAny (model P w) A (.call (.ref f) args) (CR CX outer P w H s Q E) s
theorem FnOk.mono {P : Program} {w : World} {K : PySem.W.Frag} {mg : Str → Option Value} {base : Heap} {CX : CXT} {j k : Nat} {f : Addr} {fd : FuncData} {ps : List Str} {sp : Sp} (F : FnOk P w K mg base CX j f fd ps sp) (h : j ≤ k) :
    FnOk P w K mg base CX k f fd ps sp := ⟨F.len, fun A outer s H args us vs Q E hr => F.run A outer s H args us vs Q E (hr.mono h)⟩
theorem FnOk.imp {P : Program} {w : World} {K : PySem.W.Frag} {mg : Str → Option Value} {base : Heap} {CX : CXT} {k : Nat} {f : Addr} {fd : FuncData} {ps : List Str} {sp sp' : Sp} (F : FnOk P w K mg base CX k f fd ps sp)
    (h : ∀ vs H Q E, sp' vs H Q E → sp vs H Q E) : FnOk P w K mg base CX k f fd ps sp' :=
  ⟨fun vs H Q E q => F.len vs H Q E (h _ _ _ _ q), fun A outer s H args us vs Q E hr he hb hv hs => F.run A outer s H args us vs Q E hr he hb hv (h _ _ _ _ hs)⟩
theorem Env0.make {P : Program} {w : World} {K : PySem.W.Frag} {mg : Str → Option Value} {base : Heap} {A : Around} {outer : List Env} {s : Shared} {H : Hp} (e : Env0 P w K mg base A outer s H) (C : Addr) (us : List Value) (kw : List (Str × Value)) :
    Env0 P w K mg base (A.under (.builtin "type.__call__" ⟨.ref C :: us, kw⟩)) outer s H := ⟨by first | exact e.frames | (simpa [Around.under, Code.envs, Code.isFrame, pushEnvs] using e.frames), e.mod, e.bs, e.bsz, e.funs, e.frf, e.hok, e.bare⟩
theorem Env0.in1 {P : Program} {w : World} {K : PySem.W.Frag} {mg : Str → Option Value} {base : Heap} {A : Around} {outer : List Env} {s : Shared} {H : Hp} (e : Env0 P w K mg base A outer s H) :
    Env0 P w K mg base A.in1 outer s H := ⟨e.frames, e.mod, e.bs, e.bsz, e.funs, e.frf, e.hok, e.bare⟩
section
variable {X : Cx} {pins : List (Addr × Obj)} {σ : St} {H : Hp} {s s' : Shared}
theorem Inv.env0 (I : Inv X pins σ H s) : Env0 X.prog X.w X.K X.mg X.base X.A X.stack s H :=
  ⟨I.ok.frames, I.ok.mod, I.bs, Nat.le_trans I.ok.bsz I.sz, I.stack, I.stkFree, I.hok, I.bare⟩
theorem Inv.after {Q : VK} {u : Value} (I : Inv X pins σ H s) (h : CE X.stack X.prog X.w H s Q u s') : EP X pins σ Q u s' := by
  obtain ⟨v, H', os, bare, un, hok, r, q⟩ := h
  obtain ⟨hh, g, d, t, os'⟩ := s'
  obtain rfl : os' = s.os := os
  exact ⟨v, H', I.call (h' := hh) (g' := g) (d' := d) (t' := t) (ch := []) un hok bare (fun b z => absurd z (by simp)), r, q⟩
end
def tCall (sp : Sp) (dvs : List V) (E : XK) (t : TA) : TE := fun σ H Q => t σ H fun vs H1 => sp (vs ++ dvs) H1 Q E
def tMeth (C : Addr) (m : Str) (sp : Sp) (dvs : List V) (E : XK) (ta : TE) (t : TA) : TE := fun σ H Q => ta σ H fun x H1 => ∃ a dx fs, x = .ref a ∧ H1 a = some (.ins C dx fs) ∧ fs.lookup m = none ∧
  t σ H1 fun vs H2 => sp (x :: (vs ++ dvs)) H2 Q E
def tMake (C : Addr) (sp : Sp) (dvs : List V) (E : XK) (t : TA) : TE := fun σ H Q => t σ H fun vs H1 => ∀ x dx, H1 x = none → H1 dx = none → dx ≠ x →
  sp (.ref x :: (vs ++ dvs)) (upd (upd H1 dx (.own x)) x (.ins C dx [])) (fun v H2 => v = .non ∧ Q (.ref x) H2) E
def Binds (K : PySem.W.Frag) (fd : FuncData) (ps : List Str) (ds : List Value) : Prop :=
  ∀ (s : Shared) (us : List Value), K.In s.heap → (us ++ ds).length = ps.length → BindsTo s fd ⟨us, []⟩ (ps.zip (us ++ ds))
theorem Binds.all {K : PySem.W.Frag} {fd : FuncData} {ps : List Str} (h : ∀ us : List Value, us.length = ps.length → bindArgs fd ⟨us, []⟩ = pure (ps.zip us)) : Binds K fd ps [] := fun s us _ hl => by
  rw [List.append_nil] at hl ⊢
  exact .of_eq (h us hl)
def Passes (CX : CXT) (X : Cx) (E : XK) : Prop := ∀ (pins : List (Addr × Obj)) (σ : St) (H : Hp) (s : Shared) (e : Value) (s' : Shared), Inv X pins σ H s → CX X.stack H s E e s' → X.xe e s'
section
variable {X : Cx} {CX : CXT} {k : Nat} {f C : Addr} {fd : FuncData} {ps : List Str} {sp : Sp} {dvs : List V} {ds : List Value} {E : XK} {x m : Str} {p pos apos : Pos} {e o : Expr} {es : List Expr} {ta : TE} {t : TA}
theorem run_fn {pins : List (Addr × Obj)} {σ : St} {H : Hp} {s : Shared} {Q : VK} {us : List Value} {vs : List V} (F : FnOk X.prog X.w X.K X.mg X.base CX k f fd ps sp) (hr : Room k X.A) (hb : Binds X.K fd ps ds) (hd : Vals dvs ds) (hx : Passes CX X E)
    (I : Inv X pins σ H s) (r : Vals vs us) (h : sp (vs ++ dvs) H Q E) : wpAny (model X.prog X.w) X.A (call (.ref f) us) (EP X pins σ Q) X.xe s := by
  have r2 : Vals (vs ++ dvs) (us ++ ds) := r.append hd
  have hl : (us ++ ds).length = ps.length := by rw [← r2.length]; exact F.len _ _ _ _ h
  refine wpAny_call (codeAny_mono (F.run X.A X.stack s H ⟨us, []⟩ (us ++ ds) (vs ++ dvs) Q E hr I.env0 (hb s us I.kIn hl) r2 h) fun r s' hq => ?_)
  cases r with
  | error e => exact hx pins σ H s e s' I hq
  | ok fl =>
    cases fl with
    | ret u => exact I.after hq
    | next => exact False.elim hq
    | brk => exact False.elim hq
    | cont => exact False.elim hq
theorem pe_call (F : FnOk X.prog X.w X.K X.mg X.base CX k f fd ps sp) (hr : Room k X.A) (hg : Gl X x) (hm : X.mg x = some (.ref f)) (hk : PySem.W.keepIn X.K (.ref f) = true) (hb : Binds X.K fd ps ds) (hd : Vals dvs ds) (hx : Passes CX X E)
    (ha : PA X (e :: es) t) (hdb : (x == ("__debug__" : Str)) = false := by decide) (he : starEach (e :: es) X.env = (false, eval e X.env) :: starEach es X.env := by rfl) (hpl : (backTo pos (starEach es X.env)).any (·.1) = false := by rfl) :
    PE X (.Call (.Name x p) (e :: es) [] pos) (tCall sp dvs E t) := by
  intro pins s σ H Q I h
  refine wpAny_Call_Name_kw (ld_glob I hg hm ?_ hdb)
  refine PySem.W.callWith_K (h₀ := X.base) I.ok.mod.kin hk (thn (ha pos pins s σ H _ I h) fun us s1 ⟨vs, H1, I1, r, q⟩ => ⟨I1.kIn, ?_⟩) he hpl
  exact run_fn F hr hb hd hx I1 r q
theorem pe_meth {pl : Sem Bool} (he : PE X o ta) (c : Cls X.K C) (hm : Meth X.K C m f) (F : FnOk X.prog X.w X.K X.mg X.base CX k f fd ps sp) (hr : Room k X.A) (hb : Binds X.K fd ps ds) (hd : Vals dvs ds) (hx : Passes CX X E) (ha : PA X (e :: es) t)
    (hst : starEach (e :: es) X.env = (false, eval e X.env) :: starEach es X.env := by rfl) (hpl : (backTo pos (starEach es X.env)).any (·.1) = false := by rfl)
    (ht : eval (.Call (.Attribute o m apos) (e :: es) [] pos) X.env = (do
      let ov ← eval o X.env
      standAt apos.atName
      let (f, first) ← holding [ov] (getMethod ov m pl)
      callWith pos f first (backTo pos (starEach (e :: es) X.env)) (backToKw pos (keywordEach [] X.env))) := by rfl) :
    PE X (.Call (.Attribute o m apos) (e :: es) [] pos) (tMeth C m sp dvs E ta t) := by
  intro pins s σ H Q I h
  refine PySem.W.methodCall_KW (pl := pl) (thn (he pins s σ H _ I h) fun u s1 ⟨x, H1, I1, rx, a, dx, fs, ex, ea, l, q⟩ => ?_) ht
  subst ex
  obtain rfl : u = Value.ref a := rx
  refine getmeth_ok I1 ea c hm l ?_
  refine PySem.W.callWith_K (first := [.ref a]) (h₀ := X.base) I.ok.mod.kin hm.kp (thn (ha pos pins s1 σ H1 _ I1 q) fun us s2 ⟨vs, H2, I2, r, q2⟩ => ⟨I2.kIn, ?_⟩) hst hpl
  exact run_fn (us := .ref a :: us) (vs := .ref a :: vs) F hr hb hd hx I2 (.cons rfl r) q2
theorem pe_meth0 {pl : Sem Bool} (he : PE X o ta) (c : Cls X.K C) (hm : Meth X.K C m f) (F : FnOk X.prog X.w X.K X.mg X.base CX k f fd ps sp) (hr : Room k X.A) (hb : Binds X.K fd ps ds) (hd : Vals dvs ds) (hx : Passes CX X E)
    (ht : eval (.Call (.Attribute o m apos) [] [] pos) X.env = (do
      let ov ← eval o X.env
      standAt apos.atName
      let (f, first) ← holding [ov] (getMethod ov m pl)
      callWith pos f first (backTo pos (starEach [] X.env)) (backToKw pos (keywordEach [] X.env))) := by rfl) :
    PE X (.Call (.Attribute o m apos) [] [] pos) (tMeth C m sp dvs E ta tNil) := by
  intro pins s σ H Q I h
  refine PySem.W.methodCall_KW (pl := pl) (thn (he pins s σ H _ I h) fun u s1 ⟨x, H1, I1, rx, a, dx, fs, ex, ea, l, q⟩ => ?_) ht
  subst ex
  obtain rfl : u = Value.ref a := rx
  refine getmeth_ok I1 ea c hm l ?_
  exact PySem.W.callWith_K0 (first := [.ref a]) I1.kIn hm.kp (run_fn (us := [.ref a]) (vs := [.ref a]) F hr hb hd hx I1 (.cons rfl .nil) q)
structure Mk (K : PySem.W.Frag) (C f : Addr) : Prop where
  makes : PySem.W.makesIn K C = true
  init : PySem.W.findIn K (.ref C) "__init__" = some (some (.ref f))
  fn : PySem.W.isFn K (.ref f) = true
  kp : PySem.W.keepIn K (.ref C) = true
theorem run_make {pins : List (Addr × Obj)} {σ : St} {H : Hp} {s : Shared} {Q : VK} {us : List Value} {vs : List V} (M : Mk X.K C f) (F : FnOk X.prog X.w X.K X.mg X.base CX k f fd ps sp) (hr : Room (k + 1) X.A) (hb : Binds X.K fd ps ds) (hd : Vals dvs ds)
    (hx : Passes CX X E) (I : Inv X pins σ H s) (r : Vals vs us)
    (h : ∀ x dx, H x = none → H dx = none → dx ≠ x → sp (.ref x :: (vs ++ dvs)) (upd (upd H dx (.own x)) x (.ins C dx [])) (fun v H2 => v = .non ∧ Q (.ref x) H2) E) :
    wpAny (model X.prog X.w) X.A (call (.ref C) us) (EP X pins σ Q) X.xe s := by
  have hq := h (s.heap.objs.size + 1) s.heap.objs.size (I.hok.fresh (Nat.le_succ _)) (I.hok.fresh (Nat.le_refl _)) (Nat.ne_of_lt (Nat.lt_succ_self _))
  have I2 := Inv.made (C := C) I
  have r2 : Vals (V.ref (s.heap.objs.size + 1) :: (vs ++ dvs)) (Value.ref (s.heap.objs.size + 1) :: (us ++ ds)) := .cons rfl (r.append hd)
  have hl : (Value.ref (s.heap.objs.size + 1) :: us ++ ds).length = ps.length := by
    have e := r2.length
    rw [F.len _ _ _ _ hq] at e
    exact e.symm
  refine wpAny_call (make_map (f := f) I.kIn M.makes M.init (beq_iff_eq.mp M.fn) (codeAny_mono (F.run _ X.stack _ _ ⟨Value.ref (s.heap.objs.size + 1) :: us, []⟩ (Value.ref (s.heap.objs.size + 1) :: (us ++ ds)) _ _ E (hr.make C us [])
    (I2.env0.make C us []) (hb _ (Value.ref (s.heap.objs.size + 1) :: us) I2.kIn hl) r2 hq) fun r s' hq' => ?_))
  cases r with
  | error e => exact hx pins σ _ _ e s' I2 hq'
  | ok fl =>
    cases fl with
    | ret u =>
      obtain ⟨v, H', I3, rv, ev, q3⟩ := I2.after hq'
      subst ev
      exact ⟨rv, ⟨V.ref (s.heap.objs.size + 1), H', I3, rfl, q3⟩⟩
    | next => exact False.elim hq'
    | brk => exact False.elim hq'
    | cont => exact False.elim hq'
theorem pe_make0 (M : Mk X.K C f) (F : FnOk X.prog X.w X.K X.mg X.base CX k f fd ps sp) (hr : Room (k + 1) X.A) (hg : Gl X x) (hm : X.mg x = some (.ref C)) (hb : Binds X.K fd ps ds) (hd : Vals dvs ds) (hx : Passes CX X E)
    (hdb : (x == ("__debug__" : Str)) = false := by decide) : PE X (.Call (.Name x p) [] [] pos) (tMake C sp dvs E tNil) := by
  intro pins s σ H Q I h
  refine wpAny_Call_Name_kw (ld_glob I hg hm ?_ hdb)
  exact PySem.W.callWith_K0 I.kIn M.kp (run_make (us := []) M F hr hb hd hx I .nil h)
end
section
variable {X : Cx} {CX : CXT} {k : Nat} {f C : Addr} {fd : FuncData} {ps ks : List Str} {sp : Sp} {E : XK} {x m : Str} {p pos apos kpos : Pos} {e o : Expr} {es : List Expr} {kws : List Keyword} {te ta : TE} {t tk : TA} {nm : Option Str}
variable {g : List Value → List Value → List Value} {gV : List V → List V → List V}
end
structure FnScope (N P : List Str) (sc : Scope) : Prop where
  kind : sc.kind = .function
  co : sc.isCoroutine = false
  gen : sc.isGenerator = false
  nd : N.Nodup
  pre : N.take P.length = P
  par : ∀ x ∈ P, sc.names.lookup x = some .local ∨ sc.names.lookup x = some .cell
  nofree : ∀ y ∈ sc.names, y.2 ≠ .free
theorem bindL_out {kindOf : Str → Option NameKind} {x : Str} : ∀ {binds : List (Str × Value)} {m : Str → Option Value}, (∀ v, (x, v) ∉ binds) → bindL kindOf binds m x = m x
  | [], _, _ => rfl
  | (n, v) :: r, m, h => by
    unfold bindL
    rw [bindL_out fun w hw => h w (List.mem_cons_of_mem _ hw)]
    split
    · have : x ≠ n := by rintro rfl; exact h v List.mem_cons_self
      simp [this]
    · rfl
theorem bindC_out {kindOf : Str → Option NameKind} {x : Str} : ∀ {binds : List (Str × Value)} {m : Str → Option Value}, (∀ v, (x, v) ∉ binds) → bindC kindOf binds m x = m x
  | [], _, _ => rfl
  | (n, v) :: r, m, h => by
    unfold bindC
    rw [bindC_out fun w hw => h w (List.mem_cons_of_mem _ hw)]
    split
    · rfl
    · have : x ≠ n := by rintro rfl; exact h v List.mem_cons_self
      simp [this]
theorem bindL_get {kindOf : Str → Option NameKind} {x : Str} {v : Value} : ∀ {P : List Str} {vs : List Value} {i : Nat} {m : Str → Option Value}, P.Nodup → P[i]? = some x → vs[i]? = some v → kindOf x = some .local →
    bindL kindOf (P.zip vs) m x = some v
  | [], _, _, _, _, h, _, _ => by simp at h
  | _ :: _, [], _, _, _, _, h, _ => by simp at h
  | p :: P, w :: vs, 0, m, nd, h1, h2, hk => by
    simp at h1 h2; subst h1; subst h2
    show bindL kindOf ((p, w) :: P.zip vs) m p = _
    unfold bindL
    rw [bindL_out fun v hv => (List.nodup_cons.mp nd).1 (List.of_mem_zip hv).1, if_pos hk]
    simp
  | p :: P, w :: vs, i + 1, m, nd, h1, h2, hk => by
    show bindL kindOf ((p, w) :: P.zip vs) m x = _
    unfold bindL
    exact bindL_get (i := i) (List.nodup_cons.mp nd).2 (by simpa using h1) (by simpa using h2) hk
theorem bindC_get {kindOf : Str → Option NameKind} {x : Str} {v : Value} : ∀ {P : List Str} {vs : List Value} {i : Nat} {m : Str → Option Value}, P.Nodup → P[i]? = some x → vs[i]? = some v → kindOf x ≠ some .local →
    bindC kindOf (P.zip vs) m x = some v
  | [], _, _, _, _, h, _, _ => by simp at h
  | _ :: _, [], _, _, _, _, h, _ => by simp at h
  | p :: P, w :: vs, 0, m, nd, h1, h2, hk => by
    simp at h1 h2; subst h1; subst h2
    show bindC kindOf ((p, w) :: P.zip vs) m p = _
    unfold bindC
    rw [bindC_out fun v hv => (List.nodup_cons.mp nd).1 (List.of_mem_zip hv).1, if_neg hk]
    simp
  | p :: P, w :: vs, i + 1, m, nd, h1, h2, hk => by
    show bindC kindOf ((p, w) :: P.zip vs) m x = _
    unfold bindC
    exact bindC_get (i := i) (List.nodup_cons.mp nd).2 (by simpa using h1) (by simpa using h2) hk
def start (N : List Str) (vs : List V) : St := vs.map some ++ List.replicate (N.length - vs.length) none
def cxOf (CX : CXT) (P : Program) (w : World) (K : PySem.W.Frag) (mg : Str → Option Value) (base : Heap) (N : List Str) (qual : Str) (scope : Scope) (f : Addr) (cd : Value) (A : Around) (outer : List Env) (s : Shared) (H : Hp) (E : XK) : Cx where
  prog := P
  w := w
  K := K
  mg := mg
  base := base
  A := A.deeper (envOfC qual scope s.heap.objs.size f cd)
  N := N
  s_0 := s
  H_0 := H
  env := envOfC qual scope s.heap.objs.size f cd
  outer := outer
  stack := envOfC qual scope s.heap.objs.size f cd :: outer
  ex := []
  calm := true
  fn := fun _ => true
  pn := []
  xe := fun e s' => wpAny (model P w) (A.deeper (envOfC qual scope s.heap.objs.size f cd)) (leaving (envOfC qual scope s.heap.objs.size f cd) e) (fun _ s'' => CX outer H s E e s'') (fun e' s'' => CX outer H s E e' s'') s'
theorem cell_has {sc : Scope} {n : Nat} {x : Str} (h : sc.names.lookup x = some .cell) : ∃ c, (cellsFrom n sc.names []).lookup x = some c := by
  have q := PySem.W.cellsFrom_some sc.names n [] (.inl h)
  exact Option.isSome_iff_exists.mp q
theorem inv_start {CX : CXT} {P : Program} {w : World} {K : PySem.W.Frag} {mg : Str → Option Value} {base : Heap} {N ps : List Str} {qual : Str} {scope : Scope} {f : Addr} {cd : Value} {A : Around} {outer : List Env} {s s1 : Shared} {H : Hp} {E : XK} {us : List Value} {vs : List V}
    (S : FnScope N ps scope) (hd : A.handled = none) (e0 : Env0 P w K mg base A outer s H) (hl : vs.length = ps.length) (r : Vals vs us)
    (x : InCallC s s.heap.objs.size (bindL (envOfC qual scope s.heap.objs.size f cd).kindOf (ps.zip us) fun _ => none) (cellsFrom (s.heap.objs.size + 1) scope.names []) (bindC (envOfC qual scope s.heap.objs.size f cd).kindOf (ps.zip us) fun _ => none) s1) :
    Inv (cxOf CX P w K mg base N qual scope f cd A outer s H E) [] (start N vs) H s1 := by
  have hpl : ps.length ≤ N.length := by have := congrArg List.length S.pre; rw [List.length_take] at this; omega
  obtain ⟨h1, tk, rfl, hk⟩ := x.done
  have noA : ∀ b : Addr, b ∉ (cxOf CX P w K mg base N qual scope f cd A outer s H E).ex := fun b z => absurd (show b ∈ ([] : List Addr) from z) (by simp)
  refine ⟨⟨e0.mod, S.kind, rfl, rfl, Nat.le_refl _, fun y z c h1 h2 => ?_, fun y hy => ?_, fun y c _ h => ?_, fun _ => hd, Around.frames_deeper e0.frames, .inr ⟨rfl, rfl⟩, fun b z => absurd z (noA b), e0.bs, e0.bsz, fun b _ _ => noA b, fun b z => absurd z (noA b), e0.funs, e0.frf⟩,
    rfl, e0.bare, Un.kept hk, ⟨_, x.toInCall.ns, fun i y v h1 h2 h3 => ?_⟩, fun y c h => ⟨_, x.cell y c h⟩, e0.hok.fresh (Nat.le_refl _), fun y c h => ?_, fun p hp => absurd (show p ∈ ([] : List (Addr × Obj)) from hp) (by simp), e0.hok.kept hk, ?_⟩
  · exact name_of_addr x.apart (PySem.mem_of_lookup h1) (PySem.mem_of_lookup h2)
  · have hy : scope.names.lookup y = some .cell ∨ scope.names.lookup y = some .free := hy
    rcases hy with hy | hy
    · exact cell_has hy
    · exact absurd rfl (S.nofree _ (PySem.mem_of_lookup hy))
  · exact Nat.le_of_lt (x.above y c (PySem.mem_of_lookup h))
  · have hi : i < vs.length := by
      unfold start at h2
      by_cases hi : i < vs.length
      · exact hi
      · rw [List.getElem?_append_right (by simpa using hi)] at h2
        rw [List.getElem?_replicate] at h2
        split at h2 <;> cases h2
    have ha : vs[i]? = some v := by
      unfold start at h2
      rw [List.getElem?_append_left (by simpa using hi), List.getElem?_map] at h2
      cases e : vs[i]? with
      | none => rw [e] at h2; cases h2
      | some a => rw [e] at h2; cases h2; rfl
    obtain ⟨u, hu, rv⟩ := r.get ha
    have hp : ps[i]? = some y := by
      rw [← S.pre, List.getElem?_take_of_lt (by omega)]; exact h1
    have ndP : ps.Nodup := by rw [← S.pre]; exact S.nd.sublist (List.take_sublist _ _)
    refine ⟨u, rv, ?_⟩
    rcases S.par y (List.mem_of_getElem? hp) with k | k
    · exact .inl ⟨k, bindL_get ndP hp hu k⟩
    · obtain ⟨c, e⟩ := cell_has (n := s.heap.objs.size + 1) k
      refine .inr ⟨.inl k, c, e, ?_⟩
      have q := x.cell y c e
      rw [bindC_get ndP hp hu (by show scope.names.lookup y ≠ _; rw [k]; decide)] at q
      exact q
  · exact e0.hok.fresh (Nat.le_of_lt (x.above y c (PySem.mem_of_lookup h)))
  · unfold start
    show _ = N.length
    rw [List.length_append, List.length_map, List.length_replicate]
    omega
theorem fn_of {CX : CXT} {P : Program} {w : World} {K : PySem.W.Frag} {mg : Str → Option Value} {base : Heap} {k : Nat} {f : Addr} {name qual : Str} {params : Arguments} {body : List Stmt} {scope : Scope} {dV kV doc pm cdv ct oc : Value} {an od : Option Addr}
    {osl : Array (Option Value)} {N ps : List Str} {sp : Sp} (lk : K.lookup f = some ⟨oc, od, .func (PySem.W.fnOf name qual params body scope dV kV doc pm an cdv ct), osl⟩) (hcd : PySem.W.codeIn K cdv qual = true) (S : FnScope N ps scope)
    (len : ∀ vs H Q E, sp vs H Q E → vs.length = ps.length)
    (hbody : ∀ (A : Around) (outer : List Env) (s : Shared) (H : Hp) (vs : List V) (Q : VK) (E : XK), Room k (A.deeper (envOfC qual scope s.heap.objs.size f cdv)) → sp vs H Q E →
      ∃ t, PSs (cxOf CX P w K mg base N qual scope f cdv A outer s H E) body t ∧ t { nx := fun _ H' => Q .non H', rt := Q } (start N vs) H) :
    FnOk P w K mg base CX (k + 1) f (PySem.W.fnOf name qual params body scope dV kV doc pm an cdv ct) ps sp := by
  refine ⟨len, fun A outer s H args us vs Q E hr e0 hb r hsp => ?_⟩
  have hl := len _ _ _ _ hsp
  have KX : K.In s.heap := e0.mod.kin.keeps fun b o e => (e0.bs b o e).1
  have lim : s.heap.NoLimit := e0.mod.nolimit.keeps fun b o e => (e0.bs b o e).1
  have hkind : ∀ y ∈ ps.zip us, scope.names.lookup y.1 = some .local ∨ (scope.names.lookup y.1 = some .cell ∧ ((cellsFrom (s.heap.objs.size + 1) scope.names []).lookup y.1).isSome = true) := fun ⟨n, v⟩ hy => by
    rcases S.par n (List.of_mem_zip hy).1 with q | q
    · exact .inl q
    · exact .inr ⟨q, PySem.W.cellsFrom_some _ _ _ (.inl q)⟩
  refine codeAny_call_function hr.depth (KX _ _ lk) rfl S.co S.gen rfl (PySem.W.codeRec_of KX hcd) (hb _ _ _ _ ?_)
  refine wpAny_newFunctionEnv_cells S.kind hkind fun env he s1 x => ?_
  subst he
  refine ⟨lim.keeps x.toInCall.keep, codeAny_func ?_⟩
  obtain ⟨t, ht, hq⟩ := hbody A outer s H vs Q E (hr.deeper _) hsp
  have I : Inv (cxOf CX P w K mg base N qual scope f cdv A outer s H E) [] (start N vs) H s1 := inv_start S hr.hd e0 hl r x
  refine wpAny_mono (ht [] s1 (start N vs) H _ I hq) (fun fl s' hs => ?_) fun e s' hs => hs
  have fin : ∀ {σ' : St} {H' : Hp} {v : V} {u : Value}, Inv (cxOf CX P w K mg base N qual scope f cdv A outer s H E) [] σ' H' s' → RelV v u → Q v H' → CE outer P w H s Q u s' :=
    fun {σ' H' v u} J rv q => ⟨v, H', J.os, J.bare, J.base, J.hok, rv, q⟩
  cases fl with
  | ret u =>
    obtain ⟨v, σ', H', J, rv, q⟩ := hs
    exact fin J rv q
  | next =>
    obtain ⟨σ', H', J, q⟩ := hs
    exact fin (v := V.non) (u := Value.none) J rfl q
  | brk =>
    obtain ⟨_, _, _, q⟩ := hs
    exact False.elim q
  | cont =>
    obtain ⟨_, _, _, q⟩ := hs
    exact False.elim q
end L2
namespace L2
open PySem PySem.Spec PyProof.Rows
section
variable {X : Cx} {x : Str} {p pos : Pos} {e : Expr} {es : List Expr} {t : TA} {id T : String} {r : List V → Hp → VK → Prop}
def tCB (r : List V → Hp → VK → Prop) (t : TA) : TE := fun σ H Q => t σ H fun vs H1 => r vs H1 Q
theorem pe_callB (hc : CallR X (.builtin id) r) (hg : Gl X x) (hm : X.mg x = none) (hv : bootBuiltins x = some (.builtin id)) (ha : PA X (e :: es) t) (hn : x ≠ "__name__" := by decide) (hdb : (x == ("__debug__" : Str)) = false := by decide)
    (he : starEach (e :: es) X.env = (false, eval e X.env) :: starEach es X.env := by rfl) (hpl : (backTo pos (starEach es X.env)).any (·.1) = false := by rfl) : PE X (.Call (.Name x p) (e :: es) [] pos) (tCB r t) := by
  intro pins s σ H Q I h
  refine wpAny_Call_Name_kw (ld_blt I hg hm hv ?_ hn hdb)
  exact PyProof.Rows.callWith_builtin1 (thn (ha pos pins s σ H _ I h) fun us s1 ⟨vs, H1, I1, r1, q1⟩ => hc pins s1 σ H1 vs us Q I1 r1 q1) he hpl
theorem pe_callTy (hc : CallR X (.type T) r) (hg : Gl X x) (hm : X.mg x = none) (hv : bootBuiltins x = some (.type T)) (ha : PA X (e :: es) t) (hn : x ≠ "__name__" := by decide) (hdb : (x == ("__debug__" : Str)) = false := by decide)
    (he : starEach (e :: es) X.env = (false, eval e X.env) :: starEach es X.env := by rfl) (hpl : (backTo pos (starEach es X.env)).any (·.1) = false := by rfl) : PE X (.Call (.Name x p) (e :: es) [] pos) (tCB r t) := by
  intro pins s σ H Q I h
  refine wpAny_Call_Name_kw (ld_blt I hg hm hv ?_ hn hdb)
  exact PyProof.Rows.callWith_type1 (thn (ha pos pins s σ H _ I h) fun us s1 ⟨vs, H1, I1, r1, q1⟩ => hc pins s1 σ H1 vs us Q I1 r1 q1) he hpl
end
end L2
namespace HT
open PySem PyProof.Rows
section
open PySem.SeqAt
open PySem.AutoSeq1 (wpAny_loadPart')
open PySem.MeetsSeq PySem.MeetsSeq2 PySem.MeetsSeq3
end
section
variable {prog : Program} {w : World} {A : Around} {E : Value → Shared → Prop} {s : Shared}
theorem cat_tup {t b : Addr} {vs ws : List Value} {Q : Value → Shared → Prop} (ht : IsTup s.heap t vs.toArray) (hb : IsTup s.heap b ws.toArray) (hv : vs ≠ [])
    (h1 : ws = [] → Q (.ref t) s) (h2 : ws ≠ [] → Q (.ref s.heap.objs.size) { s with heap := s.heap.push { cls := .type "tuple", data := .seq (vs ++ ws).toArray } })
    (hsz : vs.length + ws.length ≤ sizeLine) : wpAny (model prog w) A (binaryOp .Add (.ref t) (.ref b)) Q E s := by
  obtain ⟨⟨cls, dd, data, sl⟩, ho, hc, n, hd⟩ := id ht
  obtain ⟨⟨cls2, dd2, data2, sl2⟩, ho2, hc2, n2, hd2⟩ := id hb
  simp only at hc hd hc2 hd2
  subst hc hd hc2 hd2
  have e : vs.toArray ++ ws.toArray = (vs ++ ws).toArray := by simp
  by_cases hw : ws = []
  · exact concat_meets ⟨_, ho, rfl⟩ ⟨_, ho2, rfl⟩ noFill_tuple_add seq_tuple_add PySem.F.slot_tuple_add PySem.F.entry_tuple_add (PySem.F.args_tuple_add_2 _ _)
      (tuple_addW1 t b vs.toArray ws.toArray n n2 dd dd2 sl sl2 (by simpa using hv) (by simp [hw])) ⟨ho, ho2, h1 hw⟩
  · refine concat_meets ⟨_, ho, rfl⟩ ⟨_, ho2, rfl⟩ noFill_tuple_add seq_tuple_add PySem.F.slot_tuple_add PySem.F.entry_tuple_add (PySem.F.args_tuple_add_2 _ _)
      (tuple_addW2 t b vs.toArray ws.toArray n n2 dd dd2 sl sl2 (by simpa using hv) (by simpa using hw) (by rw [List.size_toArray, List.size_toArray]; exact hsz)) ⟨ho, ho2, ?_⟩
    rw [e]
    exact h2 hw
def sIx (n d : Nat) : Option Int → Nat
  | none => d
  | some v => if v < 0 then (v + (n : Int)).toNat else min v.toNat n
theorem sIx_none (n d : Nat) : sIx n d none = d := rfl
theorem sIx_nat (n d k : Nat) : sIx n d (some (k : Int)) = min k n := by
  show (if (k : Int) < 0 then ((k : Int) + (n : Int)).toNat else min (k : Int).toNat n) = min k n
  rw [if_neg (by omega), Int.toNat_natCast]
theorem sIx_le (n d : Nat) (hd : d ≤ n) (o : Option Int) : sIx n d o ≤ n := by
  cases o with
  | none => exact hd
  | some v =>
    show (if v < 0 then (v + (n : Int)).toNat else min v.toNat n) ≤ n
    by_cases hv : v < 0
    · rw [if_pos hv]; omega
    · rw [if_neg hv]; exact Nat.min_le_right _ _
theorem clip_eq (v : Int) (n d : Nat) : (if v < 0 then max (v + (n : Int)) 0 else min v (n : Int)) = ((sIx n d (some v) : Nat) : Int) := by
  show (if v < 0 then max (v + (n : Int)) 0 else min v (n : Int)) = (((if v < 0 then (v + (n : Int)).toNat else min v.toNat n) : Nat) : Int)
  by_cases hv : v < 0
  · simp only [if_pos hv]; omega
  · simp only [if_neg hv]; omega
theorem adjust_gen (lo hi : Option Int) (n : Nat) : Builtin.Slice.sliceAdjust lo hi 1 (n : Int) = (((sIx n 0 lo : Nat) : Int), ((sIx n n hi : Nat) : Int)) := by
  have h1 : ¬ ((1 : Int) < 0) := by omega
  unfold Builtin.Slice.sliceAdjust
  simp only [h1, if_false]
  refine Prod.ext ?_ ?_
  · cases lo with
    | none => rfl
    | some v => exact clip_eq v n 0
  · cases hi with
    | none => rfl
    | some v => exact clip_eq v n n
theorem places_gen (i j : Nat) : Builtin.Slice.slicePlaces (i : Int) (j : Int) 1 = j - i := by
  unfold Builtin.Slice.slicePlaces
  have h1 : (1 : Int) > 0 := by omega
  simp only [h1, if_true, Int.ediv_one]
  split <;> omega
theorem slicePart_ {v : Value} {o : Option Int} {Q : Option Int → Shared → Prop} (p : IsPart v o) (h : Q o s) : wpAny (model prog w) A (Builtin.Slice.slicePartIndex v) Q E s := by
  cases p with
  | none => exact slicePart_none h
  | int i t => exact slicePart_int h
theorem sliceApplied_gen {sl : Addr} {vl vu : Value} {lo hi : Option Int} {n : Nat} {Q : Int × Int × Nat → Shared → Prop} (hs : s.heap.IsSliceOf sl vl vu .none) (pl : IsPart vl lo) (pu : IsPart vu hi)
    (h : Q (((sIx n 0 lo : Nat) : Int), 1, sIx n n hi - sIx n 0 lo) s) : wpAny (model prog w) A (Builtin.Slice.sliceApplied (.ref sl) (pure (n : Int))) Q E s := by
  obtain ⟨os, hos, hcs, hds⟩ := id hs
  unfold Builtin.Slice.sliceApplied Builtin.Slice.sliceFields
  refine wpAny_bind (wpAny_bind (wpAny_field hos hds (x := vl) rfl (wpAny_bind (wpAny_field hos hds (x := vu) rfl (wpAny_bind (wpAny_field hos hds (x := .none) rfl (wpAny_pure ?_)))))))
  refine wpAny_bind (slicePart_none ?_)
  show wpAny _ _ (if ((1 : Int) == 0) = true then _ else _) _ _ s
  rw [if_neg (by decide)]
  refine wpAny_bind (slicePart_ pl (wpAny_bind (slicePart_ pu (wpAny_bind (wpAny_pure ?_)))))
  show wpAny _ _ (match Builtin.Slice.sliceAdjust lo hi 1 (n : Int) with | (lo, hi) => pure (lo, (1 : Int), Builtin.Slice.slicePlaces lo hi 1)) _ _ s
  rw [adjust_gen lo hi n]
  show wpAny _ _ (pure (((sIx n 0 lo : Nat) : Int), (1 : Int), Builtin.Slice.slicePlaces ((sIx n 0 lo : Nat) : Int) ((sIx n n hi : Nat) : Int) 1)) _ _ s
  rw [places_gen]
  exact wpAny_pure h
theorem pick_gen (xs : Array Value) (i k : Nat) : ((List.range k).filterMap fun (m : Nat) => xs[((i : Int) + (m : Int) * 1).toNat]?).toArray = ((xs.toList.drop i).take k).toArray := by
  have e : (fun (m : Nat) => xs[((i : Int) + (m : Int) * 1).toNat]?) = fun m => xs[i + m]? := by
    funext m
    have : ((i : Int) + (m : Int) * 1).toNat = i + m := by omega
    rw [this]
  rw [e]
  have := pick_run xs i k
  rw [List.filterMap_map] at this
  have e2 : ((fun x => xs[x]?) ∘ fun x => i + x) = fun m => xs[i + m]? := rfl
  rw [e2] at this
  rw [this]
theorem getItem_tuple_cut {t sl : Addr} {items : Array Value} {vl vu : Value} {lo hi : Option Int} {Q : Value → Shared → Prop} (ht : IsTup s.heap t items) (hs : s.heap.IsSliceOf sl vl vu .none) (pl : IsPart vl lo) (pu : IsPart vu hi)
    (hw : ¬ (sIx items.size 0 lo = 0 ∧ sIx items.size items.size hi = items.size))
    (h : Q (.ref s.heap.objs.size) { s with heap := s.heap.push { cls := .type "tuple", data := .seq ((items.toList.drop (sIx items.size 0 lo)).take (sIx items.size items.size hi - sIx items.size 0 lo)).toArray } })
    (hsz : items.size ≤ sizeLine) : wpAny (model prog w) A (getItem (.ref t) (.ref sl)) Q E s := by
  have htake : sizeOk (.seq ((items.toList.drop (sIx items.size 0 lo)).take (sIx items.size items.size hi - sIx items.size 0 lo)).toArray) := by
    show ((items.toList.drop (sIx items.size 0 lo)).take (sIx items.size items.size hi - sIx items.size 0 lo)).toArray.size ≤ sizeLine
    rw [List.size_toArray, List.length_take, List.length_drop, Array.length_toList]
    omega
  have hj : sIx items.size items.size hi ≤ items.size := sIx_le _ _ (Nat.le_refl _) hi
  obtain ⟨os, hos, hcs, hds⟩ := id hs
  have hTs : s.TypeIs (.ref sl) "slice" := ⟨os, hos, hcs⟩
  unfold getItem
  try with_reducible refine wpAny_holding ?_
  first | refine wpAny_bind (wpAny_pure ?_) | skip
  refine wpAny_bind (wpAny_sequenceKey ht.typeIs (by decide) ?_)
  refine wpAny_bind (wpAny_callSpecial?_slot (name := Str.ofString "__getitem__") ht.typeIs PyProof.Rows.slot_tuple_getitem
    (wpAny_call_entry PyProof.Rows.slot_tuple_getitem ht.typeIs entry_tuple_getitem ?_ (args_tuple_getitem _ _)))
  show wpAny _ _ (Builtin.Tuple.tupleItemsOf (.ref t) >>= _) _ _ s
  refine wpAny_bind (tupleItemsOf_ ht ?_)
  refine wpAny_bind (wpAny_typeOf hTs ?_)
  rw [if_pos (by decide)]
  refine wpAny_bind (sliceApplied_gen hs pl pu ?_)
  have hno : ¬ ((((sIx items.size 0 lo : Nat) : Int) == 0 && (1 : Int) == 1 && (sIx items.size items.size hi - sIx items.size 0 lo) == items.size) = true) := by
    intro q
    rw [Bool.and_eq_true, Bool.and_eq_true] at q
    have q1 : ((sIx items.size 0 lo : Nat) : Int) = 0 := eq_of_beq q.1.1
    have q2 : sIx items.size items.size hi - sIx items.size 0 lo = items.size := eq_of_beq q.2
    exact hw ⟨by omega, by omega⟩
  show wpAny _ _ (if (((sIx items.size 0 lo : Nat) : Int) == 0 && (1 : Int) == 1 && (sIx items.size items.size hi - sIx items.size 0 lo) == items.size) = true then _ else _) _ _ s
  rw [if_neg hno, pick_gen]
  first
    | exact wpAny_bind (m := Builtin.Tuple.tupleExact _) (wpAny_newObj_type (wpAny_pure ⟨_, rfl, wpAny_pure h⟩) htake)
    | exact wpAny_bind (m := Builtin.Tuple.tupleExact _) (wpAny_newObj_type (wpAny_bind (wpAny_pure (wpAny_pure ⟨_, rfl, wpAny_pure h⟩))) htake)
    | exact wpAny_bind (wpAny_bind (m := Builtin.Tuple.tupleExact _) (wpAny_newObj_type (wpAny_pure (wpAny_pure ⟨_, rfl, wpAny_pure h⟩)) htake))
    | exact wpAny_bind (wpAny_bind (m := Builtin.Tuple.tupleExact _) (wpAny_newObj_type (wpAny_pure ⟨_, rfl, wpAny_pure h⟩) htake))
end
end HT
namespace L2
open PySem PySem.Spec PyProof.Rows
abbrev TO := St → Hp → (Option Int → Hp → Prop) → Prop
def PO (X : Cx) (e : Option Expr) (t : TO) : Prop :=
  ∀ (pins : List (Addr × Obj)) (s : Shared) (σ : St) (H : Hp) (Q : Option Int → Hp → Prop), Inv X pins σ H s → t σ H Q →
    wpAny (model X.prog X.w) X.A (evalPart e X.env) (fun u s' => ∃ o H', Inv X pins σ H' s' ∧ IsPart u o ∧ Q o H') X.xe s
def tNoPart : TO := fun _ H Q => Q none H
def tPart (t : TE) : TO := fun σ H Q => t σ H fun x H1 => ∃ i, x = .int i ∧ Q (some i) H1
section
variable {X : Cx} {e : Expr} {te : TE} {lo hi : Option Expr} {tl th : TO} {pos p2 : Pos}
theorem po_none : PO X none tNoPart := by
  intro pins s σ H Q I h
  rw [evalPart_none]
  exact wpAny_pure ⟨none, H, I, .none, h⟩
theorem po_some (h : PE X e te) : PO X (some e) (tPart te) := by
  intro pins s σ H Q I hw
  rw [evalPart_some]
  refine thn (h pins s σ H _ I hw) fun u s1 ⟨x, H1, I1, r1, q1⟩ => ?_
  obtain ⟨i, rfl, q⟩ := q1
  obtain ⟨t, rfl⟩ := r1
  exact ⟨some i, H1, I1, .int i t, q⟩
def SlR (X : Cx) (r : V → Option Int → Option Int → Hp → VK → Prop) : Prop :=
  ∀ (pins : List (Addr × Obj)) (s : Shared) (σ : St) (H : Hp) (x : V) (v vl vu : Value) (lo hi : Option Int) (sl : Addr) (Q : VK), Inv X pins σ H s → RelV x v → s.heap.IsSliceOf sl vl vu .none → IsPart vl lo → IsPart vu hi → r x lo hi H Q →
    ∃ T id, typeLookup (.type T) "__getitem__" = pure (some (.builtin id)) ∧ s.TypeIs v T ∧ wpAny (model X.prog X.w) X.A (getItem v (.ref sl)) (EP X pins σ Q) X.xe s
theorem SlR.or {r r' : V → Option Int → Option Int → Hp → VK → Prop} (h : SlR X r) (h' : SlR X r') : SlR X (fun x lo hi H Q => r x lo hi H Q ∨ r' x lo hi H Q) := by
  intro pins s σ H x v vl vu lo hi sl Q I rx hs pl pu q
  rcases q with q | q
  · exact h pins s σ H x v vl vu lo hi sl Q I rx hs pl pu q
  · exact h' pins s σ H x v vl vu lo hi sl Q I rx hs pl pu q
def tSl (r : V → Option Int → Option Int → Hp → VK → Prop) (te : TE) (tl th : TO) : TE := fun σ H Q => te σ H fun x H1 => tl σ H1 fun l H2 => th σ H2 fun u H3 => r x l u H3 Q
theorem pe_slice {r : V → Option Int → Option Int → Hp → VK → Prop} (hr : SlR X r) (he : PE X e te) (hl : PO X lo tl) (hu : PO X hi th) : PE X (.Subscript e (.Slice lo hi none p2) pos) (tSl r te tl th) := by
  intro pins s σ H Q I h
  refine Subscript_ (thn (he pins s σ H _ I h) fun v s1 ⟨x, H1, I1, r1, q1⟩ => ?_)
  refine wpAny_Slice (thn (hl pins s1 σ H1 _ I1 q1) fun vl s2 ⟨l, H2, I2, pl, q2⟩ => thn (hu pins s2 σ H2 _ I2 q2) fun vu s3 ⟨u, H3, I3, pu, q3⟩ => ?_)
  rw [evalPart_none]
  refine wpAny_pure ?_
  have I4 : Inv X pins σ H3 { s3 with heap := s3.heap.push { cls := .type "slice", data := .fields #[vl, vu, .none] } } := I3.kept (t' := s3.toks) fun b ob q => Heap.get?_push_of_some _ q
  obtain ⟨T, id, hT, ht, hg⟩ := hr pins { s3 with heap := s3.heap.push { cls := .type "slice", data := .fields #[vl, vu, .none] } } σ H3 x v vl vu l u s3.heap.objs.size Q I4 r1 (Heap.IsSliceOf.new ..) pl pu q3
  show wpAny (model X.prog X.w) X.A (subscriptTail e (.Slice lo hi none p2) v (.ref s3.heap.objs.size)) (EP X pins σ Q) X.xe { s3 with heap := s3.heap.push { cls := .type "slice", data := .fields #[vl, vu, .none] } }
  exact tail_any (ops := [.ref s3.heap.objs.size, v]) ht hT hg (by with_unfolding_all rfl)
def cutV (xs : List V) (lo hi : Option Int) : List V := (xs.drop (HT.sIx xs.length 0 lo)).take (HT.sIx xs.length xs.length hi - HT.sIx xs.length 0 lo)
theorem cutV_length (xs : List V) (lo hi : Option Int) : (cutV xs lo hi).length ≤ xs.length := by
  unfold cutV
  rw [List.length_take, List.length_drop]
  omega
def rSlT (K : PySem.W.Frag) : V → Option Int → Option Int → Hp → VK → Prop := fun x lo hi H Q => ∃ a xs, x = .ref a ∧ SqT K H a xs ∧
  ¬ (HT.sIx xs.length 0 lo = 0 ∧ HT.sIx xs.length xs.length hi = xs.length) ∧ ∀ p, H p = none → Q (.ref p) (upd H p (.tup (cutV xs lo hi)))
theorem sl_tup : SlR X (rSlT X.K) := by
  intro pins s σ H x v vl vu lo hi sl Q I rx hs pl pu h
  obtain ⟨a, xs, rfl, hx, hw, q⟩ := h
  cases rx
  obtain ⟨its, r, ht, hz⟩ := I.tuple hx
  have hlen : its.toArray.size = xs.length := by rw [List.size_toArray]; exact r.length.symm
  refine ⟨"tuple", _, PyProof.Rows.slot_tuple_getitem.lookup, ht.typeIs, ?_⟩
  refine HT.getItem_tuple_cut ht hs pl pu (by rw [hlen]; exact hw) ?_ (by rw [hlen]; exact hz)
  rw [hlen]
  refine ⟨.ref s.heap.objs.size, _, I.laid (t' := s.toks) (o := .tup (cutV xs lo hi)) (fun b ob q => Heap.get?_push_of_some _ q) (Nat.le_refl _) ?_, rfl, q _ (I.hok.fresh (Nat.le_refl _))⟩
  exact ⟨Nat.le_trans (cutV_length xs lo hi) hz, _, (r.drop (HT.sIx xs.length 0 lo)).take (HT.sIx xs.length xs.length hi - HT.sIx xs.length 0 lo), IsTup.new _ _⟩
def rCatT (K : PySem.W.Frag) : R2 := fun x y H Q => ∃ a b xs ys, x = .ref a ∧ y = .ref b ∧ SqT K H a xs ∧ SqT K H b ys ∧ xs ≠ [] ∧ xs.length + ys.length ≤ sizeLine ∧
  (ys = [] → Q (.ref a) H) ∧ (ys ≠ [] → ∀ p, H p = none → Q (.ref p) (upd H p (.tup (xs ++ ys))))
theorem Vals.nil_iff {xs : List V} {us : List Value} (r : Vals xs us) : us = [] ↔ xs = [] := by
  cases r with
  | nil => simp
  | cons _ _ => simp
theorem op_catT : OpR X (binaryOp .Add) (rCatT X.K) := by
  intro pins s σ H x y v u Q I rx ry h
  obtain ⟨a, b, xs, ys, rfl, rfl, ha, hb, hx, hz, q1, q2⟩ := h
  cases rx
  cases ry
  obtain ⟨its, r1, p1, _⟩ := I.tuple ha
  obtain ⟨its2, r2, p2, _⟩ := I.tuple hb
  refine HT.cat_tup p1 p2 (fun z => hx (r1.nil_iff.mp z)) (fun z => ⟨.ref a, H, I, rfl, q1 (r2.nil_iff.mp z)⟩) (fun z => ?_) (by rw [← r1.length, ← r2.length]; exact hz)
  refine ⟨.ref s.heap.objs.size, _, I.laid (t' := s.toks) (o := .tup (xs ++ ys)) (fun b ob q => Heap.get?_push_of_some _ q) (Nat.le_refl _) ?_, rfl, q2 (fun w => z (r2.nil_iff.mpr w)) _ (I.hok.fresh (Nat.le_refl _))⟩
  exact ⟨by rw [List.length_append]; exact hz, _, r1.append r2, IsTup.new _ _⟩
end
end L2
namespace L2
open PySem PySem.Spec PyProof.Rows
def ixN (n : Nat) (i : Int) : Option Nat := if 0 ≤ i then (if i < n then some i.toNat else none) else if -(n : Int) ≤ i then some (i + n).toNat else none
def atI {α : Type} (xs : List α) (i : Int) : Option α := (ixN xs.length i).bind fun j => xs[j]?
theorem ixN_seq {n : Nat} {i : Int} {j : Nat} (h : ixN n i = some j) : seqIndex? i n = some j ∧ j < n ∧ -(n : Int) ≤ i ∧ i < n := by
  unfold ixN at h
  by_cases h0 : 0 ≤ i
  · rw [if_pos h0] at h
    by_cases h1 : i < n
    · rw [if_pos h1] at h
      have e : i.toNat = j := Option.some.inj h
      exact ⟨by rw [seqIndex_of h0 h1, e], by omega, by omega, h1⟩
    · rw [if_neg h1] at h; cases h
  · rw [if_neg h0] at h
    by_cases h1 : -(n : Int) ≤ i
    · rw [if_pos h1] at h
      have e : (i + n).toNat = j := Option.some.inj h
      exact ⟨by rw [seqIndex_neg (by omega) h1, e], by omega, h1, by omega⟩
    · rw [if_neg h1] at h; cases h
theorem atI_get {α : Type} {xs : List α} {i : Int} {v : α} (h : atI xs i = some v) : ∃ j, seqIndex? i xs.length = some j ∧ xs[j]? = some v ∧ j < xs.length ∧ -(xs.length : Int) ≤ i ∧ i < xs.length := by
  unfold atI at h
  cases e : ixN xs.length i with
  | none => rw [e] at h; cases h
  | some j =>
    rw [e] at h
    obtain ⟨h1, h2, h3, h4⟩ := ixN_seq e
    exact ⟨j, h1, h, h2, h3, h4⟩
theorem atI_nat {α : Type} {xs : List α} {j : Nat} {v : α} (h : xs[j]? = some v) : atI xs (j : Int) = some v := by
  have hj : j < xs.length := (List.getElem?_eq_some_iff.mp h).1
  have e : ixN xs.length (j : Int) = some j := by
    unfold ixN
    rw [if_pos (by omega), if_pos (by omega)]; simp
  unfold atI; rw [e]; exact h
theorem atI_last {α : Type} (xs : List α) (v : α) : atI (xs ++ [v]) (-1) = some v := by
  have hl : (xs ++ [v]).length = xs.length + 1 := by simp
  have e : ixN (xs ++ [v]).length (-1) = some xs.length := by
    unfold ixN
    rw [hl, if_neg (by decide), if_pos (by omega)]
    congr 1
    omega
  unfold atI
  rw [e]
  show (xs ++ [v])[xs.length]? = some v
  simp
def PlainIx (b : Expr) : Prop := ∀ o i, subscripted b false o i = operate [o, i] (getItem o i)
def IxR (X : Cx) (r : R2) : Prop :=
  ∀ (value slice : Expr) (pins : List (Addr × Obj)) (s : Shared) (σ : St) (H : Hp) (x y : V) (v u : Value) (Q : VK), Inv X pins σ H s → RelV x v → RelV y u → r x y H Q →
    subscripted slice false v u = operate [v, u] (getItem v u) → wpAny (model X.prog X.w) X.A (subscriptTail value slice v u) (EP X pins σ Q) X.xe s
def MtR (X : Cx) (id : String) (r : V → List V → Hp → VK → Prop) : Prop :=
  ∀ (pins : List (Addr × Obj)) (s : Shared) (σ : St) (H : Hp) (x : V) (xs : List V) (v : Value) (us : List Value) (Q : VK), Inv X pins σ H s → RelV x v → Vals xs us → r x xs H Q →
    wpAny (model X.prog X.w) X.A (call (.builtin id) (v :: us)) (EP X pins σ Q) X.xe s
section
variable {X : Cx} {a b : Expr} {ta tb : TE} {pos : Pos}
theorem IxR.or {r r' : R2} (h : IxR X r) (h' : IxR X r') : IxR X (fun x y H Q => r x y H Q ∨ r' x y H Q) := by
  intro value slice pins s σ H x y v u Q I rx ry q hs
  rcases q with q | q
  · exact h value slice pins s σ H x y v u Q I rx ry q hs
  · exact h' value slice pins s σ H x y v u Q I rx ry q hs
theorem MtR.or {id : String} {r r' : V → List V → Hp → VK → Prop} (h : MtR X id r) (h' : MtR X id r') : MtR X id (fun x xs H Q => r x xs H Q ∨ r' x xs H Q) := by
  intro pins s σ H x xs v us Q I rx rs q
  rcases q with q | q
  · exact h pins s σ H x xs v us Q I rx rs q
  · exact h' pins s σ H x xs v us Q I rx rs q
theorem pe_ix {r : R2} (hr : IxR X r) (ha : PE X a ta) (hb : PE X b tb) (hs : PlainIx b) : PE X (.Subscript a b pos) (tOp r ta tb) := by
  intro pins s σ H Q I h
  exact Subscript_ (binT ha hb I h fun v u s2 x y H2 I2 rx ry q => hr a b pins s2 σ H2 x y v u Q I2 rx ry q (hs _ _))
def rIxL (K : PySem.W.Frag) : R2 := fun x y H Q => ∃ p xs i v, x = .ref p ∧ y = .int i ∧ SqL K H p xs ∧ atI xs i = some v ∧ Q v H
def rIxT (K : PySem.W.Frag) : R2 := fun x y H Q => ∃ p xs i v, x = .ref p ∧ y = .int i ∧ SqT K H p xs ∧ atI xs i = some v ∧ Q v H
theorem ix_list : IxR X (rIxL X.K) := by
  intro value slice pins s σ H x y v u Q I rx ry h hs
  obtain ⟨p, xs, i, z, rfl, rfl, hq, he, q⟩ := h
  cases rx
  obtain ⟨t, rfl⟩ := ry
  obtain ⟨its, r, pl, hz⟩ := I.list hq
  obtain ⟨j, h1, h2, h3, h4, h5⟩ := atI_get he
  obtain ⟨w, ew, rw'⟩ := r.get h2
  have hl := r.length
  have hn := line63
  have fin : EP X pins σ Q w s := ⟨z, H, I, rw', q⟩
  by_cases h0 : 0 ≤ i
  · have hj : i.toNat = j := by
      rw [seqIndex_of h0 h5] at h1
      exact Option.some.inj h1
    exact item_listR pl.isList h0 (by omega) (by rw [hj]; simpa using ew) fin hs
  · have hj : (i + (its.toArray.size : Int)).toNat = j := by
      rw [seqIndex_neg (by omega) h4] at h1
      rw [List.size_toArray, ← hl]
      exact Option.some.inj h1
    exact subscriptTail_builtinR (x := w) pl.isList.typeIs slot_list_getitem.lookup
      (wpAny_getItem_list_neg (Q := fun r s' => r = w ∧ EP X pins σ Q r s') pl.isList (by omega) (by rw [List.size_toArray] <;> omega) (by omega) (by rw [hj]; simpa using ew) ⟨rfl, fin⟩) hs
theorem ix_tup : IxR X (rIxT X.K) := by
  intro value slice pins s σ H x y v u Q I rx ry h hs
  obtain ⟨p, xs, i, z, rfl, rfl, hq, he, q⟩ := h
  cases rx
  obtain ⟨t, rfl⟩ := ry
  obtain ⟨its, r, pl, hz⟩ := I.tuple hq
  obtain ⟨j, h1, h2, h3, h4, h5⟩ := atI_get he
  obtain ⟨w, ew, rw'⟩ := r.get h2
  have hl := r.length
  have hn := line63
  have fin : EP X pins σ Q w s := ⟨z, H, I, rw', q⟩
  exact subscriptTail_builtinR (x := w) pl.typeIs slot_tuple_getitem.lookup
    (getItem_tuple (j := j) (Q := fun r s' => r = w ∧ EP X pins σ Q r s') pl (by omega) (by omega) (by rw [List.size_toArray, ← hl]; exact h1) (by simpa using ew) ⟨rfl, fin⟩) hs
theorem mapSeq_set (its : List Value) (n j : Nat) (u : Value) : Obj.mapSeq (·.setIfInBounds j u) { cls := .type "list", data := .seq its.toArray n } = { cls := .type "list", data := .seq (its.set j u).toArray n } := by
  simp [Obj.mapSeq]
theorem Inv.lst {pins : List (Addr × Obj)} {σ : St} {H : Hp} {s : Shared} {p : Addr} {xs : List V} (I : Inv X pins σ H s) (h : H p = some (.lst xs)) :
    ∃ (its : List Value) (n : Nat), Vals xs its ∧ s.heap.get? p = some { cls := .type "list", data := .seq its.toArray n } ∧ xs.length ≤ sizeLine := by
  obtain ⟨z, its, n, r, e⟩ := I.hok p _ h
  exact ⟨its, n, r, e, z⟩
theorem Inv.lstUpd {pins : List (Addr × Obj)} {σ : St} {H : Hp} {s : Shared} {p : Addr} {xs ys : List V} {its its' : List Value} {n n' : Nat} {f : Obj → Obj} (I : Inv X pins σ H s) (h : H p = some (.lst xs))
    (ho : s.heap.get? p = some { cls := .type "list", data := .seq its.toArray n }) (hf : f { cls := .type "list", data := .seq its.toArray n } = { cls := .type "list", data := .seq its'.toArray n' }) (r : Vals ys its') (hz : ys.length ≤ sizeLine) (t : Nat) :
    Inv X pins σ (upd H p (.lst ys)) { s with heap := s.heap.update p f, toks := t } := by
  have e : (s.heap.update p f).get? p = some { cls := .type "list", data := .seq its'.toArray n' } := by
    rw [Heap.get?_update_self f ho (by rw [hf] <;> rfl), hf]
  refine I.write (x := p) (e := p) (by rw [h]; trivial) (.inl rfl) (fun b u hb q => (Heap.get?_update_other _ _ (Ne.symm hb)).trans q) ⟨_, e⟩ ?_
  exact ⟨hz, its', n', r, e⟩
def rSetL : V → V → V → Hp → (Hp → Prop) → Prop := fun o i v H Q => ∃ p xs k j, o = .ref p ∧ i = .int k ∧ H p = some (.lst xs) ∧ ixN xs.length k = some j ∧ Q (upd H p (.lst (xs.set j v)))
theorem set_list : PSet X rSetL := by
  intro pins s σ H o i v ov iv u Q I ro ri rv h
  obtain ⟨p, xs, k, j, rfl, rfl, hp, hj, q⟩ := h
  cases ro
  obtain ⟨t, rfl⟩ := ri
  obtain ⟨its, n, r, ho, hz⟩ := I.lst hp
  obtain ⟨h1, h2, h3, h4⟩ := ixN_seq hj
  have hl := r.length
  have hn := line63
  have I' : Inv X pins σ (upd H p (.lst (xs.set j v))) { s with heap := s.heap.update p (Obj.mapSeq (·.setIfInBounds j u)) } :=
    I.lstUpd hp ho (mapSeq_set its n j u) (r.set rv j) (by rw [List.length_set]; exact hz) s.toks
  by_cases h0 : 0 ≤ k
  · have hk : k.toNat = j := by
      rw [seqIndex_of h0 h4] at h1
      exact Option.some.inj h1
    exact PySem.W.ki_setAt ho h0 (by omega) (by rw [List.size_toArray, ← hl]; exact h4) (by rw [hk]; exact ⟨_, I', q⟩)
  · have hk : (k + (its.toArray.size : Int)).toNat = j := by
      rw [seqIndex_neg (by omega) h3] at h1
      rw [List.size_toArray, ← hl]
      exact Option.some.inj h1
    exact PySem.W.ki_setBack ho (by omega) (by rw [List.size_toArray, ← hl]; exact h3) (by omega) (by rw [hk]; exact ⟨_, I', q⟩)
theorem slice_bounds (lo hi : Option Int) (n : Nat) : (sliceBounds lo hi none n).1 = ((HT.sIx n 0 lo : Nat) : Int) ∧ (sliceBounds lo hi none n).2.1 = ((HT.sIx n n hi : Nat) : Int) ∧ (sliceBounds lo hi none n).2.2 = 1 := by
  refine ⟨?_, ?_, rfl⟩
  · cases lo with
    | none => simp [sliceBounds, HT.sIx]
    | some i =>
      simp only [sliceBounds, HT.sIx, Option.getD_none, show (1 : Int) > 0 by decide, if_true]
      by_cases h : i < 0
      · simp only [h, if_true] <;> omega
      · simp only [h, if_false] <;> omega
  · cases hi with
    | none => simp [sliceBounds, HT.sIx]
    | some i =>
      simp only [sliceBounds, HT.sIx, Option.getD_none, show (1 : Int) > 0 by decide, if_true]
      by_cases h : i < 0
      · simp only [h, if_true] <;> omega
      · simp only [h, if_false] <;> omega
theorem slicePick_cut (its : List Value) (lo hi : Option Int) : slicePick its.toArray lo hi none = ((its.drop (HT.sIx its.length 0 lo)).take (HT.sIx its.length its.length hi - HT.sIx its.length 0 lo)).toArray := by
  obtain ⟨h1, h2, h3⟩ := slice_bounds lo hi its.toArray.size
  unfold slicePick
  rw [h1, h2, h3]
  simp only [sliceRange_one, pick_run, List.size_toArray] <;> rfl
def rSlL (K : PySem.W.Frag) : V → Option Int → Option Int → Hp → VK → Prop := fun x lo hi H Q => ∃ a xs, x = .ref a ∧ SqL K H a xs ∧ ∀ p, H p = none → Q (.ref p) (upd H p (.lst (cutV xs lo hi)))
theorem sl_list : SlR X (rSlL X.K) := by
  intro pins s σ H x v vl vu lo hi sl Q I rx hs pl pu h
  obtain ⟨a, xs, rfl, hx, q⟩ := h
  cases rx
  obtain ⟨its, r, ht, hz⟩ := I.list hx
  have hlen := r.length
  refine ⟨"list", _, slot_list_getitem.lookup, ht.isList.typeIs, ?_⟩
  refine wpAny_getItem_list_slice ht.isList hs pl pu .none (by simp) ?_ (by rw [List.size_toArray] <;> omega)
  rw [slicePick_cut, ← hlen]
  refine ⟨.ref s.heap.objs.size, _, I.laid (t' := s.toks) (o := .lst (cutV xs lo hi)) (fun b ob q => Heap.get?_push_of_some _ q) (Nat.le_refl _) ?_, rfl, q _ (I.hok.fresh (Nat.le_refl _))⟩
  exact ⟨Nat.le_trans (cutV_length xs lo hi) hz, _, 0, (r.drop (HT.sIx xs.length 0 lo)).take (HT.sIx xs.length xs.length hi - HT.sIx xs.length 0 lo), Heap.get?_push_size _ rfl⟩
def flatV : V → Bool
  | .non => true
  | .bl _ => true
  | .int _ => true
  | .str _ => true
  | _ => false
def eqV : V → V → Bool
  | .non, .non => true
  | .bl a, .bl b => a == b
  | .bl a, .int b => (if a then 1 else 0) == b
  | .int a, .bl b => a == (if b then 1 else 0)
  | .int a, .int b => a == b
  | .str a, .str b => a == b
  | _, _ => false
theorem eqAt_V {A : Around} {s : Shared} {y x : V} {u v : Value} (ry : RelV y u) (rx : RelV x v) (fy : flatV y = true) (fx : flatV x = true) : SeqAt.EqAt A s u v (eqV y x) := by
  cases y with
  | non =>
    cases ry
    cases x with
    | non => cases rx; exact SeqAt.EqAt.same _
    | bl b => cases rx; exact SeqAt.EqAt.none_bool b
    | int b => obtain ⟨t, rfl⟩ := rx; exact SeqAt.EqAt.none_int b t
    | str b => obtain ⟨t, rfl⟩ := rx; exact SeqAt.EqAt.none_str b t
    | _ => exact absurd (show false = true from fx) Bool.false_ne_true
  | bl a =>
    cases ry
    cases x with
    | non => cases rx; exact SeqAt.EqAt.bool_none a
    | bl b => cases rx; exact SeqAt.EqAt.bool_bool a b
    | int b => obtain ⟨t, rfl⟩ := rx; exact SeqAt.EqAt.bool_int a b t
    | str b => obtain ⟨t, rfl⟩ := rx; exact SeqAt.EqAt.bool_str a b t
    | _ => exact absurd (show false = true from fx) Bool.false_ne_true
  | int a =>
    obtain ⟨t', rfl⟩ := ry
    cases x with
    | non => cases rx; exact SeqAt.EqAt.int_none a t'
    | bl b => cases rx; exact SeqAt.EqAt.int_bool a t' b
    | int b => obtain ⟨t, rfl⟩ := rx; exact SeqAt.EqAt.int_int a t' b t
    | str b => obtain ⟨t, rfl⟩ := rx; exact SeqAt.EqAt.int_str a t' b t
    | _ => exact absurd (show false = true from fx) Bool.false_ne_true
  | str a =>
    obtain ⟨t', rfl⟩ := ry
    cases x with
    | non => cases rx; exact SeqAt.EqAt.str_none a t'
    | bl b => cases rx; exact SeqAt.EqAt.str_bool a t' b
    | int b => obtain ⟨t, rfl⟩ := rx; exact SeqAt.EqAt.str_int a t' b t
    | str b => obtain ⟨t, rfl⟩ := rx; exact SeqAt.EqAt.str_str a t' b t
    | _ => exact absurd (show false = true from fx) Bool.false_ne_true
  | _ => exact absurd (show false = true from fy) Bool.false_ne_true
def eqU (x : V) (u : Value) : Bool := match u with
  | .none => eqV .non x
  | .bool b => eqV (.bl b) x
  | .int i _ => eqV (.int i) x
  | .str z _ => eqV (.str z) x
  | _ => false
theorem eqU_of {x y : V} {u : Value} (r : RelV y u) (f : flatV y = true) : eqU x u = eqV y x := by
  cases y with
  | non => cases r; rfl
  | bl b => cases r; rfl
  | int i => obtain ⟨t, rfl⟩ := r; rfl
  | str z => obtain ⟨t, rfl⟩ := r; rfl
  | _ => exact absurd (show false = true from f) Bool.false_ne_true
theorem any_eqU {x : V} : ∀ {xs : List V} {us : List Value}, Vals xs us → xs.all flatV = true → us.any (eqU x) = xs.any fun y => eqV y x
  | _, _, .nil, _ => rfl
  | y :: xs, u :: us, .cons r t, f => by
    rw [List.all_cons, Bool.and_eq_true] at f
    rw [List.any_cons, List.any_cons, eqU_of r f.1, any_eqU t f.2]
theorem mem_eqAt {A : Around} {s : Shared} {x : V} {v : Value} (rx : RelV x v) (fx : flatV x = true) : ∀ {xs : List V} {us : List Value}, Vals xs us → xs.all flatV = true → ∀ u ∈ us, SeqAt.EqAt A s u v (eqU x u)
  | _, _, .nil, _ => fun u hu => by cases hu
  | y :: xs, u :: us, .cons r t, f => fun u' hu => by
    rw [List.all_cons, Bool.and_eq_true] at f
    rcases List.mem_cons.mp hu with rfl | hu
    · rw [eqU_of r f.1]; exact eqAt_V r rx f.1 fx
    · exact mem_eqAt rx fx t f.2 u' hu
def inV (x : V) (xs : List V) : Bool := xs.any fun y => eqV y x
def rIn (K : PySem.W.Frag) (neg : Bool) : R2 := fun x y H Q => ∃ p xs, y = .ref p ∧ (SqL K H p xs ∨ SqT K H p xs) ∧ flatV x = true ∧ xs.all flatV = true ∧ Q (.bl (if neg then !inV x xs else inV x xs)) H
theorem op_in_seq : OpR X (compareOp .In) (rIn X.K false) := by
  intro pins s σ H x y v u Q I rx ry h
  obtain ⟨p, xs, rfl, hq, fx, fs, q⟩ := h
  cases ry
  rcases hq with hq | hq
  · obtain ⟨its, r, pl, hz⟩ := I.list hq
    refine SeqAt.in_listAt (eqU x) pl.isList (fun w hw => mem_eqAt rx fx r fs w (by simpa using hw)) ⟨.bl _, H, I, rfl, ?_⟩
    rw [show its.toArray.any (eqU x) = its.any (eqU x) by simp, any_eqU r fs]
    exact q
  · obtain ⟨its, r, pl, hz⟩ := I.tuple hq
    refine SeqAt.in_tupleAt (eqU x) pl (fun w hw => mem_eqAt rx fx r fs w (by simpa using hw)) ⟨.bl _, H, I, rfl, ?_⟩
    rw [show its.toArray.any (eqU x) = its.any (eqU x) by simp, any_eqU r fs]
    exact q
theorem call_len_seq : CallR X (.builtin "len") (fun xs H Q => ∃ p ys, xs = [.ref p] ∧ (SqL X.K H p ys ∨ SqT X.K H p ys) ∧ Q (.int ys.length) H) := by
  intro pins s σ H xs us Q I r h
  obtain ⟨p, ys, rfl, hq, q⟩ := h
  obtain ⟨u, rfl, rx⟩ := vals1 r
  cases rx
  have hn := line63
  rcases hq with hq | hq
  · obtain ⟨its, r', pl, hz⟩ := I.list hq
    have hlen := r'.length
    exact Calls.call_len_list pl.isList (by simp only [List.size_toArray] <;> omega) ⟨.int ys.length, H, I.tok _, ⟨s.toks + 1, by rw [List.size_toArray, hlen]⟩, q⟩
  · obtain ⟨its, r', pl, hz⟩ := I.tuple hq
    have hlen := r'.length
    exact len_tuple pl (by simp only [List.size_toArray] <;> omega) ⟨.int ys.length, H, I.tok _, ⟨s.toks + 1, by rw [List.size_toArray, hlen]⟩, q⟩
theorem CallR.or {f : Value} {r r' : List V → Hp → VK → Prop} (h : CallR X f r) (h' : CallR X f r') : CallR X f (fun xs H Q => r xs H Q ∨ r' xs H Q) := by
  intro pins s σ H xs us Q I rs q
  rcases q with q | q
  · exact h pins s σ H xs us Q I rs q
  · exact h' pins s σ H xs us Q I rs q
theorem call_list_of : CallR X (.type "list") (fun xs H Q => ∃ p ys, xs = [.ref p] ∧ (SqL X.K H p ys ∨ SqT X.K H p ys) ∧ ∀ l, H l = none → Q (.ref l) (upd H l (.lst ys))) := by
  intro pins s σ H xs us Q I r h
  obtain ⟨p, ys, rfl, hq, q⟩ := h
  obtain ⟨u, rfl, rx⟩ := vals1 r
  cases rx
  have fin : ∀ (its : List Value), Vals ys its → ys.length ≤ sizeLine → ∀ (h' : Heap) (c' : Nat), (∀ b o', s.heap.get? b = some o' → h'.get? b = some o') →
      h'.get? s.heap.objs.size = some { cls := .type "list", dict := none, data := .seq its.toArray c', slots := #[] } → EP X pins σ Q (.ref s.heap.objs.size) { s with heap := h' } := fun its r' hz h' c' kp e =>
    ⟨.ref s.heap.objs.size, _, I.laid (t' := s.toks) kp (Nat.le_refl _) (show ObjOk X.prog X.w _ h' _ (.lst ys) from ⟨hz, its, c', r', e⟩), rfl, q _ (I.hok.fresh (Nat.le_refl _))⟩
  rcases hq with hq | hq
  · obtain ⟨its, r', pl, hz⟩ := I.list hq
    have hlen := r'.length
    obtain ⟨o, ho, hc, n, hd⟩ := pl.isList
    exact call_list_seq p (.inl rfl) ho hc hd (fun h' c' kp e => fin its r' hz h' c' kp e) (by simp only [List.size_toArray] <;> omega)
  · obtain ⟨its, r', pl, hz⟩ := I.tuple hq
    have hlen := r'.length
    obtain ⟨o, ho, hc, n, hd⟩ := pl
    exact call_list_seq p (.inr rfl) ho hc hd (fun h' c' kp e => fin its r' hz h' c' kp e) (by simp only [List.size_toArray] <;> omega)
theorem call_tuple_of : CallR X (.type "tuple") (fun xs H Q => ∃ p ys, xs = [.ref p] ∧ ((SqL X.K H p ys ∧ ∀ l, H l = none → Q (.ref l) (upd H l (.tup ys))) ∨ (SqT X.K H p ys ∧ Q (.ref p) H))) := by
  intro pins s σ H xs us Q I r h
  obtain ⟨p, ys, rfl, h⟩ := h
  obtain ⟨u, rfl, rx⟩ := vals1 r
  cases rx
  rcases h with ⟨hq, q⟩ | ⟨hq, q⟩
  · obtain ⟨its, r', pl, hz⟩ := I.list hq
    have hlen := r'.length
    refine call_tuple_list pl.isList (fun h' kp => ?_) (by simp only [List.size_toArray] <;> omega)
    have I1 : Inv X pins σ H { s with heap := h' } := I.kept (t' := s.toks) kp
    have I2 : Inv X pins σ (upd H h'.objs.size (.tup ys)) { s with heap := h'.push { cls := .type "tuple", data := .seq its.toArray } } :=
      I1.laid (t' := s.toks) (fun b o e => Heap.get?_push_of_some _ e) (Nat.le_refl _) (show ObjOk X.prog X.w _ _ _ (.tup ys) from ⟨hz, its, r', IsTup.new _ _⟩)
    exact ⟨.ref h'.objs.size, _, I2, rfl, q _ (I1.hok.fresh (Nat.le_refl _))⟩
  · obtain ⟨its, r', pl, hz⟩ := I.tuple hq
    exact call_tuple_same pl ⟨.ref p, H, I, rfl, q⟩
def tyV (K : PySem.W.Frag) (T : String) (x : V) (H : Hp) : Prop := match x with
  | .str _ => T = "str"
  | .int _ => T = "int"
  | .ref p => (T = "list" ∧ ∃ xs, SqL K H p xs) ∨ (T = "tuple" ∧ ∃ o, K.lookup p = some o ∧ o.cls = .type "tuple" ∧ o.dict = none) ∨
      (T = "dict" ∧ ((∃ kvs, H p = some (.dK kvs)) ∨ ∃ kvs, H p = some (.dT kvs))) ∨ (T = "set" ∧ ∃ S n, H p = some (.set S n))
  | _ => False
theorem tyV_is {pins : List (Addr × Obj)} {σ : St} {H : Hp} {s : Shared} {T : String} {x : V} {v : Value} (I : Inv X pins σ H s) (r : RelV x v) (ty : tyV X.K T x H) :
    s.TypeIs v T ∧ ∀ a, v = .ref a → ∃ ob, s.heap.get? a = some ob ∧ ob.dict = none := by
  cases x with
  | str z =>
    obtain ⟨t, rfl⟩ := r
    cases (show T = "str" from ty)
    exact ⟨typeIs_str s z t, fun _ e => nomatch e⟩
  | int i =>
    obtain ⟨t, rfl⟩ := r
    cases (show T = "int" from ty)
    exact ⟨typeIs_int s i t, fun _ e => nomatch e⟩
  | ref p =>
    cases r
    rcases ty with ⟨rfl, xs, hq⟩ | ⟨rfl, o, hk, hc, hd⟩ | ⟨rfl, hk⟩ | ⟨rfl, S, n, hk⟩
    · obtain ⟨its, _, pl, _⟩ := I.list hq
      refine ⟨pl.isList.typeIs, fun a e => ?_⟩
      cases e
      obtain ⟨o, n, e, c, hd, _⟩ := pl
      exact ⟨o, e, hd⟩
    · refine ⟨⟨o, I.kIn p o hk, hc⟩, fun a e => ?_⟩
      cases e
      exact ⟨o, I.kIn _ o hk, hd⟩
    · have z : ∃ o, s.heap.get? p = some o ∧ o.ExactDict := by
        rcases hk with ⟨kvs, hk⟩ | ⟨kvs, hk⟩
        · obtain ⟨_, _, _, _, o, _, _, e, ex, _⟩ := I.hok p _ hk
          exact ⟨o, e, ex⟩
        · obtain ⟨_, _, _, _, o, _, _, e, ex, _⟩ := I.hok p _ hk
          exact ⟨o, e, ex⟩
      obtain ⟨o, e, ex⟩ := z
      refine ⟨⟨o, e, ex.1⟩, fun a e2 => ?_⟩
      cases e2
      exact ⟨o, e, ex.2.1⟩
    · obtain ⟨o, _, _, _, e, ex, _⟩ := I.hok p _ hk
      refine ⟨⟨o, e, ex.1⟩, fun a e2 => ?_⟩
      cases e2
      exact ⟨o, e, ex.2.1⟩
  | _ => exact False.elim ty
def tBM (K : PySem.W.Frag) (T : String) (r : V → List V → Hp → VK → Prop) (to : TE) (t : TA) : TE := fun σ H Q => to σ H fun x H1 => tyV K T x H1 ∧ t σ H1 fun xs H2 => r x xs H2 Q
variable {o e : Expr} {es : List Expr} {to : TE} {t : TA} {name : Str} {apos cpos : Pos} {T id : String} {r : V → List V → Hp → VK → Prop}
theorem pe_bm (pa : PlainAttrs T) (slot : Slot T name id) (hty : typeOf (.builtin id) = pure (.type "method_descriptor")) (hm : MtR X id r) (ho : PE X o to) (ha : PA X (e :: es) t)
    (hbase : attributeBase o name X.env (eval o X.env) = eval o X.env := by rfl)
    (hfew : ((backTo cpos (starEach (e :: es) X.env)).all (fun x => !x.1) && (backToKw cpos (keywordEach [] X.env)).all (fun x => x.1.isSome)
      && decide ((e :: es).length + ([] : List Keyword).length + (if ([] : List Keyword).isEmpty then 0 else 1) < 30)) = true := by rfl)
    (hline : (apos.endLine == cpos.line) = true := by rfl) (hs : starEach (e :: es) X.env = (false, eval e X.env) :: starEach es X.env := by rfl) (hplain : (backTo cpos (starEach es X.env)).any (·.1) = false := by rfl) :
    PE X (.Call (.Attribute o name apos) (e :: es) [] cpos) (tBM X.K T r to t) := by
  intro pins s σ H Q I h
  refine wpAny_Call_method_late hbase hfew hline rfl (thn (ho pins s σ H _ I h) fun v s1 ⟨x, H1, I1, r1, ty, q1⟩ => ?_)
  obtain ⟨h1, h2⟩ := tyV_is I1 r1 ty
  refine ⟨T, id, pa, slot, hty, h1, h2, ?_⟩
  have hA := ha cpos pins s1 σ H1 _ I1 q1
  rw [hs] at hA ⊢
  refine Calls.callWith_builtin (by show (false || (backTo cpos (starEach es X.env)).any (·.1)) = false; rw [hplain] <;> rfl) (Calls.evalArgs_plain ?_)
  exact thn hA fun us s2 ⟨vs, H2, I2, r2, q2⟩ => hm pins s2 σ H2 x vs v us Q I2 r1 r2 q2
/- xs.append(e), list.index on a module's tuple .. are MtR facts of 06m -/
end
end L2
namespace L2
open PySem PySem.Spec PyProof.Rows
def MtM (X : Cx) (id : String) (r : V → List V → Hp → VK → Prop) : Prop :=
  ∀ (pins : List (Addr × Obj)) (s : Shared) (σ : St) (H : Hp) (x : V) (xs : List V) (v : Value) (us : List Value) (Q : VK), Inv X pins σ H s → RelV x v → Vals xs us → r x xs H Q →
    wpAny (model X.prog X.w) X.A (call (.builtin id) (v :: us)) (EP X pins σ Q) X.xe s
theorem Vals.one : ∀ {x : V} {us : List Value}, Vals [x] us → ∃ u, us = [u] ∧ RelV x u
  | _, _, .cons r .nil => ⟨_, rfl, r⟩
theorem Vals.two : ∀ {x y : V} {us : List Value}, Vals [x, y] us → ∃ u v, us = [u, v] ∧ RelV x u ∧ RelV y v
  | _, _, _, .cons r (.cons q .nil) => ⟨_, _, rfl, r, q⟩
theorem Vals.zero : ∀ {us : List Value}, Vals [] us → us = []
  | _, .nil => rfl
theorem Vals.dropLast {xs : List V} {us : List Value} (h : Vals xs us) : Vals xs.dropLast us.dropLast := by
  induction h with
  | nil => exact .nil
  | cons r t ih =>
    cases t with
    | nil => exact .nil
    | cons q t' => exact .cons r ih
theorem Vals.reverse {xs : List V} {us : List Value} (h : Vals xs us) : Vals xs.reverse us.reverse := by
  induction h with
  | nil => exact .nil
  | cons r t ih => rw [List.reverse_cons, List.reverse_cons]; exact Vals.append ih (.cons r .nil)
theorem Vals.rep {xs : List V} {us : List Value} (h : Vals xs us) : ∀ k : Nat, Vals (List.replicate k xs).flatten (List.replicate k us).flatten
  | 0 => .nil
  | k + 1 => by
    rw [List.replicate_succ, List.replicate_succ, List.flatten_cons, List.flatten_cons]
    exact Vals.append h (Vals.rep h k)
theorem foldl_rep (its : List Value) : ∀ (k : Nat) (acc : List Value),
    List.foldl (fun x1 x2 => x1 ++ x2) acc.toArray (List.replicate k its.toArray) = (acc ++ (List.replicate k its).flatten).toArray
  | 0, acc => by simp
  | k + 1, acc => by
    have e : acc.toArray ++ its.toArray = (acc ++ its).toArray := by simp
    have e2 : (acc ++ its) ++ (List.replicate k its).flatten = acc ++ (List.replicate (k + 1) its).flatten := by
      rw [List.replicate_succ, List.flatten_cons, List.append_assoc]
    rw [← e2, ← foldl_rep its k (acc ++ its), ← e, List.replicate_succ, List.foldl_cons]
section
variable {X : Cx} {pins : List (Addr × Obj)} {σ : St} {H : Hp} {s : Shared} {l b : Addr} {xs ys zs : List V}
theorem Inv.lset {its its' : List Value} {n : Nat} {f : Array Value → Array Value} {t' : Nat} (I : Inv X pins σ H s) (hH : H l = some (.lst xs))
    (e : s.heap.get? l = some { cls := .type "list", data := .seq its.toArray n }) (hf : f its.toArray = its'.toArray) (hv : Vals ys its') (hz : ys.length ≤ sizeLine) :
    Inv X pins σ (upd H l (.lst ys)) { s with heap := s.heap.update l (Obj.mapSeq f), toks := t' } := by
  have q := PySem.IsL.update e f
  rw [hf] at q
  refine I.write (x := l) (e := l) (by rw [hH]; exact trivial) (.inl rfl) (fun b' u hb hu => (Heap.get?_update_other s.heap (Obj.mapSeq f) (Ne.symm hb)).trans hu) ⟨_, q⟩ ?_
  exact ⟨hz, its', _, hv, q⟩
theorem Inv.lnew {its : List Value} {t' : Nat} (I : Inv X pins σ H s) (hv : Vals ys its) (hz : ys.length ≤ sizeLine) :
    Inv X pins σ (upd H s.heap.objs.size (.lst ys)) { s with heap := s.heap.push { cls := .type "list", data := .seq its.toArray }, toks := t' } :=
  I.laid (fun _ _ q => Heap.get?_push_of_some _ q) (Nat.le_refl _) ⟨hz, its, 0, hv, Heap.get?_push_size _ rfl⟩
theorem Inv.fresh (I : Inv X pins σ H s) : H s.heap.objs.size = none := I.hok.fresh (Nat.le_refl _)
theorem Inv.lstM (I : Inv X pins σ H s) (hH : H l = some (.lst xs)) : xs.length ≤ sizeLine ∧ ∃ (its : List Value) (n : Nat), Vals xs its ∧ xs.length = its.length ∧ s.heap.get? l = some { cls := .type "list", data := .seq its.toArray n } := by
  obtain ⟨z, its, n, r, e⟩ := I.hok l _ hH
  exact ⟨z, its, n, r, r.length, e⟩
theorem notLongL {n : Nat} (h : n ≤ sizeLine) : Builtin.List.listTooLong n = false := by
  unfold Builtin.List.listTooLong
  exact decide_eq_false (by omega)
end
section
variable {X : Cx}
def rAppend : V → List V → Hp → VK → Prop := fun x vs H Q => ∃ l xs y, x = .ref l ∧ vs = [y] ∧ H l = some (.lst xs) ∧ xs.length < sizeLine ∧ Q .non (upd H l (.lst (xs ++ [y])))
theorem mt_append : MtM X "list.append" rAppend := by
  intro pins s σ H x vs v us Q I rx rv h
  obtain ⟨l, xs, y, rfl, rfl, hH, hz, q⟩ := h
  cases rx
  obtain ⟨u, rfl, ru⟩ := rv.one
  obtain ⟨z, its, n, r, hl, e⟩ := I.lstM hH
  refine call_meets F.slot_list_append ⟨_, e, rfl⟩ F.entry_list_append (F.args_list_append_2 _ _) (PySem.list_append l its.toArray n u (by rw [List.size_toArray]; omega)) ⟨e, ?_⟩
  refine ⟨.non, _, I.lset (its' := its ++ [u]) hH e (by simp) (r.append (.cons ru .nil)) ?_, rfl, q⟩
  rw [List.length_append, List.length_singleton]
  omega
def rExtend : V → List V → Hp → VK → Prop := fun x vs H Q => ∃ l b xs zs, x = .ref l ∧ vs = [.ref b] ∧ H l = some (.lst xs) ∧ H b = some (.lst zs) ∧ xs.length + zs.length ≤ sizeLine ∧ Q .non (upd H l (.lst (xs ++ zs)))
theorem mt_extend : MtM X "list.extend" rExtend := by
  intro pins s σ H x vs v us Q I rx rv h
  obtain ⟨l, b, xs, zs, rfl, rfl, hH, hB, hz, q⟩ := h
  cases rx
  obtain ⟨u, rfl, ru⟩ := rv.one
  cases ru
  obtain ⟨z, its, n, r, hl, e⟩ := I.lstM hH
  obtain ⟨z2, its2, n2, r2, hl2, e2⟩ := I.lstM hB
  have hsz : its.toArray.size + its2.toArray.size ≤ sizeLine := by rw [List.size_toArray, List.size_toArray]; omega
  have hlong : ¬ (!its.toArray.isEmpty && Builtin.List.listTooLong (its.toArray.size + its2.toArray.size)) = true := by
    rw [notLongL hsz, Bool.and_false]
    exact Bool.false_ne_true
  refine call_meets F.slot_list_extend ⟨_, e, rfl⟩ F.entry_list_extend (F.args_list_extend_2 _ _)
    (AutoSeq1.list_extend_list_list_0 l its.toArray n b its2.toArray n2 hlong (by rw [List.size_toArray]; omega) (by omega)) ⟨e, e2, ?_⟩
  refine ⟨.non, _, I.lset (its' := its ++ its2) hH e (by simp) (r.append r2) ?_, rfl, q⟩
  rw [List.length_append]
  omega
def rCat : R2 := fun x y H Q => ∃ l b xs zs, x = .ref l ∧ y = .ref b ∧ H l = some (.lst xs) ∧ H b = some (.lst zs) ∧ xs.length + zs.length ≤ sizeLine ∧ ∀ p, H p = none → Q (.ref p) (upd H p (.lst (xs ++ zs)))
theorem op_cat : OpR X (binaryOp .Add) rCat := by
  intro pins s σ H x y v u Q I rx ry h
  obtain ⟨l, b, xs, zs, rfl, rfl, hH, hB, hz, q⟩ := h
  cases rx
  cases ry
  obtain ⟨z, its, n, r, hl, e⟩ := I.lstM hH
  obtain ⟨z2, its2, n2, r2, hl2, e2⟩ := I.lstM hB
  refine PySem.P.add_list e e2 ?_ (by rw [List.size_toArray, List.size_toArray]; omega)
  have ea : its.toArray ++ its2.toArray = (its ++ its2).toArray := by simp
  rw [ea]
  exact ⟨.ref _, _, I.lnew (t' := s.toks) (r.append r2) (by rw [List.length_append]; omega), rfl, q _ I.fresh⟩
def rRep : R2 := fun x y H Q => ∃ l k xs, x = .ref l ∧ y = .int k ∧ H l = some (.lst xs) ∧ -(2 ^ 63) ≤ k ∧ k < 2 ^ 63 ∧ xs.length * k.toNat ≤ sizeLine ∧
  ∀ p, H p = none → Q (.ref p) (upd H p (.lst (List.replicate k.toNat xs).flatten))
theorem len_rep {α : Type} (xs : List α) (k : Nat) : (List.replicate k xs).flatten.length = k * xs.length := by
  induction k with
  | zero => simp
  | succ k ih => rw [List.replicate_succ, List.flatten_cons, List.length_append, ih, Nat.succ_mul, Nat.add_comm]
theorem op_rep : OpR X (binaryOp .Mult) rRep := by
  intro pins s σ H x y v u Q I rx ry h
  obtain ⟨l, k, xs, rfl, rfl, hH, h1, h2, hz, q⟩ := h
  cases rx
  obtain ⟨t, rfl⟩ := ry
  obtain ⟨z, its, n, r, hl, e⟩ := I.lstM hH
  have hlen : its.toArray.size * k.toNat ≤ sizeLine := by rw [List.size_toArray, ← hl]; exact hz
  have hcap : ¬ its.toArray.size * k.toNat > (2 ^ 63 - 1) / 8 := by
    have : (sizeLine : Nat) ≤ (2 ^ 63 - 1) / 8 := by decide
    omega
  have hfit : ¬ (!Builtin.List.listFitsIndex k) = true := by
    rw [fitsIndex_both h1 h2]
    exact Bool.false_ne_true
  have hlong : ¬ Builtin.List.listTooLong (its.toArray.size * k.toNat) = true := by
    rw [notLongL hlen]
    exact Bool.false_ne_true
  have hnew : List.foldl (fun x1 x2 => x1 ++ x2) #[] (List.replicate (if its.toArray.isEmpty = true then 0 else k.toNat) its.toArray) = (List.replicate k.toNat its).flatten.toArray := by
    have f0 : ∀ m : Nat, List.foldl (fun x1 x2 => x1 ++ x2) #[] (List.replicate m its.toArray) = (List.replicate m its).flatten.toArray := fun m => by
      have := foldl_rep its m []
      rw [List.nil_append] at this
      exact this
    rw [f0]
    cases its with
    | nil => simp
    | cons a r' => rw [if_neg (by simp)]
  refine wpAny_binaryOp_repeat_ref (T := "list") (U := "int") (by decide) ⟨_, e, rfl⟩ (fun s' => typeIs_int s' k t) noFill_list_mul F.fills_int_mul F.slot_int_rmul repeat_list F.slot_int_index.lookup
    (call_meets F.slot_int_rmul (typeIs_int s k t) F.entry_int_rmul (F.args_int_rmul_2 _ _) (int___rmul___int_list k t l its.toArray n)
      ⟨e, rfl, ⟨_, e, rfl⟩, call_meets F.slot_list_mul ⟨_, e, rfl⟩ F.entry_list_mul (F.args_list_mul_2 _ _) (AutoListH.list___mul___list_int_3 l its.toArray n k t hfit hcap hlong) ⟨e, ?_⟩⟩)
  rw [hnew]
  exact ⟨.ref _, _, I.lnew (t' := s.toks) (r.rep k.toNat) (by rw [len_rep, Nat.mul_comm]; exact hz), rfl, q _ I.fresh⟩
end
section
variable {prog : Program} {w : World} {A : Around} {E : Value → Shared → Prop} {s : Shared}
end
section
variable {X : Cx}
end
end L2
namespace L2
open PySem PySem.Spec PyProof.Rows
theorem Vals.ints : ∀ {ns : List Int} {us : List Value}, Vals (ns.map V.int) us → IntsAre us ns
  | [], us, h => by
    rw [List.map_nil] at h
    cases h
    exact IntsAre.nil
  | n :: ns, us, h => by
    rw [List.map_cons] at h
    cases h with
    | cons r t =>
      obtain ⟨k, rfl⟩ := r
      exact IntsAre.cons n k (Vals.ints t)
theorem vals_of_ints : ∀ {us : List Value} {ns : List Int}, IntsAre us ns → Vals (ns.map V.int) us
  | _, _, .nil => by rw [List.map_nil]; exact Paired.nil
  | _, _, .cons n t h => by rw [List.map_cons]; exact Paired.cons (show RelV (V.int n) (Value.int n t) from ⟨t, rfl⟩) (vals_of_ints h)
theorem Vals.strs : ∀ {xs : List Str} {us : List Value}, Vals (xs.map V.str) us → StrsAre us xs
  | [], us, h => by
    rw [List.map_nil] at h
    cases h
    exact StrsAre.nil
  | x :: xs, us, h => by
    rw [List.map_cons] at h
    cases h with
    | cons r t =>
      obtain ⟨k, rfl⟩ := r
      exact StrsAre.cons x k (Vals.strs t)
theorem Vals.bls : ∀ {bs : List Bool} {us : List Value}, Vals (bs.map V.bl) us → us = bs.map Value.bool
  | [], us, h => by
    rw [List.map_nil] at h
    cases h
    rfl
  | b :: bs, us, h => by
    rw [List.map_cons] at h
    cases h with
    | cons r t =>
      cases r
      rw [Vals.bls t, List.map_cons]
theorem Vals.ref1 {a : Addr} {us : List Value} (r : Vals [V.ref a] us) : us = [Value.ref a] := by
  cases r with
  | cons r t =>
    cases t
    cases r
    rfl
section
variable {prog : Program} {w : World} {A : Around} {E : Value → Shared → Prop} {s : Shared} {l : Addr} {its : List Value} {ns : List Int} {Q : Value → Shared → Prop}
end
section
variable {X : Cx}
def rSorted (K : PySem.W.Frag) : List V → Hp → VK → Prop := fun vs H Q => ∃ (a : Addr) (ns : List Int), vs = [V.ref a] ∧ SqL K H a (ns.map V.int) ∧ ns.length < 64 ∧
  ∀ (ns' : List Int) (p : Addr), ns'.Perm ns → ns'.Pairwise (· ≤ ·) → H p = none → Q (.ref p) (upd H p (.lst (ns'.map V.int)))
theorem small64 {n : Nat} (h : n < 64) : n ≤ sizeLine := by rw [sizeLine_eq]; omega
theorem cr_sorted : CallR X (.builtin "sorted") (rSorted X.K) := by
  intro pins s σ H vs us Q I r h
  obtain ⟨a, ns, rfl, hs, h64, q⟩ := h
  obtain ⟨its, rv, hl, _⟩ := I.list hs
  rw [Vals.ref1 r]
  have hi := rv.ints
  refine PyProof.Rows.sorted_ints hl.isList hi (by rw [hi.length]; exact h64) fun out ns' h1 h2 h3 => ?_
  obtain ⟨ep, he'⟩ := PyProof.Rows.sortedAll_at s.heap its out
  have hlen : (ns'.map V.int).length ≤ sizeLine := by rw [List.length_map, h2.length_eq]; exact small64 h64
  exact ⟨.ref _, upd H (s.heap.objs.size + 1) (.lst (ns'.map V.int)), I.laid (t' := s.toks) (fun _ _ => PyProof.Rows.sortedAll_old) (Nat.le_succ _) ⟨hlen, out.toList, ep, vals_of_ints h1, he'⟩, rfl, q ns' _ h2 h3 (I.hok.fresh (Nat.le_succ _))⟩
end
section
variable {X : Cx}
end
section
variable {X : Cx}
end
theorem iter_any {prog : Program} {w : World} {A : Around} {E : Value → Shared → Prop} {s : Shared} {l : Addr} {items : Array Value} {Q : Value → Shared → Prop} (hl : s.heap.IsList l items)
    (h : ∀ s₂ : Shared, s₂ = { s with heap := s.heap.push { cls := .type "list_iterator", data := .fields #[.ref l, .int 0 0] } } →
      (s₂.heap.IsListIter s.heap.objs.size l 0 ∧ s₂.heap.IsList l items) → l ≠ s.heap.objs.size → Q (.ref s.heap.objs.size) s₂) : wpAny (model prog w) A (pyIter (.ref l)) Q E s := by
  have hlt : l < s.heap.objs.size := by obtain ⟨_, e, _⟩ := hl; exact Heap.lt_size e
  exact wpAny_pyIter_list hl (h _ rfl ⟨⟨_, Heap.get?_push_size _ rfl, rfl, rfl⟩, hl.push _⟩ (Nat.ne_of_lt hlt))
theorem truth_bools {prog : Program} {w : World} {A : Around} {bs : List Bool} {its : List Value} (e : its = bs.map Value.bool) :
    TruthOf prog w A (fun i v => its.toArray[i]? = some v) (fun i => bs.getD i false) := fun i v s Q E hv hq => by
  have hv' : its[i]? = some v := by simpa using hv
  rw [e, List.getElem?_map] at hv'
  obtain ⟨b, hb, rfl⟩ := Option.map_eq_some_iff.mp hv'
  have hg : bs.getD i false = b := by rw [List.getD_eq_getElem?_getD, hb] <;> rfl
  have hq' : Q (bs.getD i false) s := hq
  rw [hg] at hq'
  exact wpAny_truthy_bool hq'
theorem any_range : ∀ bs : List Bool, (List.range bs.length).any (fun i => bs.getD i false) = bs.any id
  | [] => rfl
  | b :: bs => by
    rw [List.length_cons, List.range_succ_eq_map, List.any_cons, List.any_map, List.any_cons, ← any_range bs]
    all_goals rfl
theorem all_range : ∀ bs : List Bool, (List.range bs.length).all (fun i => bs.getD i false) = bs.all id
  | [] => rfl
  | b :: bs => by
    rw [List.length_cons, List.range_succ_eq_map, List.all_cons, List.all_map, List.all_cons, ← all_range bs]
    all_goals rfl
section
variable {X : Cx}
def rAny (K : PySem.W.Frag) : List V → Hp → VK → Prop := fun vs H Q => ∃ (a : Addr) (bs : List Bool), vs = [V.ref a] ∧ SqL K H a (bs.map V.bl) ∧ Q (.bl (bs.any id)) H
def rAll (K : PySem.W.Frag) : List V → Hp → VK → Prop := fun vs H Q => ∃ (a : Addr) (bs : List Bool), vs = [V.ref a] ∧ SqL K H a (bs.map V.bl) ∧ Q (.bl (bs.all id)) H
theorem cr_any (hc : X.calm = true) : CallR X (.builtin "any") (rAny X.K) := by
  intro pins s σ H vs us Q I r h
  obtain ⟨a, bs, rfl, hs, q⟩ := h
  obtain ⟨its, rv, hl, _⟩ := I.list hs
  rw [Vals.ref1 r]
  have hb := rv.bls
  refine call_any_walk (iter_any hl.isList fun s₂ e2 st hne => ?_)
  subst e2
  refine ⟨_, _, _, _, _, _, _, rfl, Walks.list (A := X.A.in1) (I.ok.hd hc) _ a hne its.toArray, st, truth_bools hb, fun h' tk hk => ?_⟩
  refine ⟨.bl _, H, I.kept fun b o eo => hk b o (fun hmem => ?_) (Heap.get?_push_of_some _ eo), ?_, q⟩
  · rcases List.mem_cons.mp hmem with e1 | hmem
    · exact absurd (e1 ▸ Heap.lt_size eo) (Nat.lt_irrefl _)
    · cases hmem
  · show Value.bool _ = Value.bool _
    rw [← any_range, hb, List.size_toArray, List.length_map]
theorem cr_all (hc : X.calm = true) : CallR X (.builtin "all") (rAll X.K) := by
  intro pins s σ H vs us Q I r h
  obtain ⟨a, bs, rfl, hs, q⟩ := h
  obtain ⟨its, rv, hl, _⟩ := I.list hs
  rw [Vals.ref1 r]
  have hb := rv.bls
  refine call_all_walk (iter_any hl.isList fun s₂ e2 st hne => ?_)
  subst e2
  refine ⟨_, _, _, _, _, _, _, rfl, Walks.list (A := X.A.in1) (I.ok.hd hc) _ a hne its.toArray, st, truth_bools hb, fun h' tk hk => ?_⟩
  refine ⟨.bl _, H, I.kept fun b o eo => hk b o (fun hmem => ?_) (Heap.get?_push_of_some _ eo), ?_, q⟩
  · rcases List.mem_cons.mp hmem with e1 | hmem
    · exact absurd (e1 ▸ Heap.lt_size eo) (Nat.lt_irrefl _)
    · cases hmem
  · show Value.bool _ = Value.bool _
    rw [← all_range, hb, List.size_toArray, List.length_map]
end
mutual
inductive Dp (K : PySem.W.Frag) (H : Hp) : V → PyData → Prop
  | non : Dp K H .non .none
  | bl (b : Bool) : Dp K H (.bl b) (.bool b)
  | int (i : Int) : Dp K H (.int i) (.int i)
  | str (x : Str) : Dp K H (.str x) (.str x)
  | lst {a : Addr} {xs : List V} {ds : List PyData} : SqL K H a xs → DpAll K H xs ds → Dp K H (.ref a) (.list ds)
  | tup {a : Addr} {xs : List V} {ds : List PyData} : SqT K H a xs → DpAll K H xs ds → Dp K H (.ref a) (.tuple ds)
inductive DpAll (K : PySem.W.Frag) (H : Hp) : List V → List PyData → Prop
  | nil : DpAll K H [] []
  | cons {v : V} {vs : List V} {d : PyData} {ds : List PyData} : Dp K H v d → DpAll K H vs ds → DpAll K H (v :: vs) (d :: ds)
end
section
variable {X : Cx} {pins : List (Addr × Obj)} {σ : St} {H : Hp} {s : Shared}
mutual
theorem Dp.reads (I : Inv X pins σ H s) : ∀ (d : PyData) (v : V) (u : Value), Dp X.K H v d → RelV v u → ∃ as, Reads s.heap u d as
  | .none, _, _, h, r => by
    cases h
    cases r
    exact ⟨_, Reads.none⟩
  | .bool b, _, _, h, r => by
    cases h
    cases r
    exact ⟨_, Reads.bool b⟩
  | .int i, _, _, h, r => by
    cases h
    obtain ⟨t, rfl⟩ := r
    exact ⟨_, Reads.int i t⟩
  | .str x, _, _, h, r => by
    cases h
    obtain ⟨t, rfl⟩ := r
    exact ⟨_, Reads.str x t⟩
  | .list ds, _, _, h, r => by
    cases h with
    | lst hs ha =>
      cases r
      obtain ⟨its, rv, ⟨o, n, ho, hc, _, hd⟩, _⟩ := I.list hs
      obtain ⟨as, hr⟩ := Dp.readsAll I ds _ its ha rv
      exact ⟨_, Reads.list ho hc hd hr⟩
  | .tuple ds, _, _, h, r => by
    cases h with
    | tup hs ha =>
      cases r
      obtain ⟨its, rv, ⟨o, ho, hc, n, hd⟩, _⟩ := I.tuple hs
      obtain ⟨as, hr⟩ := Dp.readsAll I ds _ its ha rv
      exact ⟨_, Reads.tuple ho hc hd hr⟩
  | .dict _, _, _, h, _ => by cases h
theorem Dp.readsAll (I : Inv X pins σ H s) : ∀ (ds : List PyData) (vs : List V) (us : List Value), DpAll X.K H vs ds → Vals vs us → ∃ as, ReadsAll s.heap us ds as
  | [], _, _, h, r => by
    cases h
    cases r
    exact ⟨_, ReadsAll.nil⟩
  | d :: ds, _, _, h, r => by
    cases h with
    | cons h1 h2 =>
      cases r with
      | cons r1 r2 =>
        obtain ⟨as, q1⟩ := Dp.reads I d _ _ h1 r1
        obtain ⟨bs, q2⟩ := Dp.readsAll I ds _ _ h2 r2
        exact ⟨_, ReadsAll.cons q1 q2⟩
end
end
section
variable {X : Cx}
def rEqD (K : PySem.W.Frag) : R2 := fun x y H Q => ∃ d e, Dp K H x d ∧ Dp K H y e ∧ SeqAt.shaped d = true ∧ SeqAt.shaped e = true ∧ Q (.bl (PyData.eqv d e)) H
theorem op_eqD (hu : X.A.units + 64 < cLine) : OpR X (compareOp .Eq) (rEqD X.K) := by
  intro pins s σ H x y v u Q I rx ry h
  obtain ⟨d, e, hd, he, sd, se, q⟩ := h
  obtain ⟨as, r1⟩ := Dp.reads I d x v hd rx
  obtain ⟨bs, r2⟩ := Dp.reads I e y u he ry
  exact SeqAt.compareEq_shaped r1 r2 sd se hu ⟨.bl _, H, I, rfl, q⟩
end
end L2
namespace L2
open PySem PySem.Spec PyProof.Rows
abbrev CellAt (h : Heap) (c : Addr) (v : Option Value) : Prop := h.IsCell c v
def relS (scope sc : Scope) : Scope :=
  { scope with names := scope.names.map fun (n, k) => if (k == .free && sc.kind == .function && sc.names.lookup n == some .cell) then (n, .cell) else (n, k) }
def cloFrom (cells : List (Str × Addr)) : List (Str × NameKind) → List (Str × Addr) → List (Str × Addr)
  | [], acc => acc
  | (n, k) :: r, acc => if k == .free then cloFrom cells r ((n, (cells.lookup n).getD 0) :: acc) else cloFrom cells r acc
theorem closure_loop (env : Env) (f : Str × NameKind → List (Str × Addr) → Sem (ForInStep (List (Str × Addr))))
    (hf : ∀ n k c, f (n, k) c = if k == .free then (do let a ← cellOf env n; pure (.yield ((n, a) :: c))) else pure (.yield c)) :
    ∀ (names : List (Str × NameKind)) (acc : List (Str × Addr)), (∀ y ∈ names, y.2 = .free → ∃ c, env.cells.lookup y.1 = some c) → forIn names acc f = pure (cloFrom env.cells names acc)
  | [], acc, _ => by rw [List.forIn_nil]; rfl
  | (n, k) :: r, acc, h => by
    rw [List.forIn_cons, hf]
    have ih := fun acc => closure_loop env f hf r acc fun y hy => h y (List.mem_cons_of_mem _ hy)
    unfold cloFrom
    by_cases hk : (k == NameKind.free) = true
    · rw [if_pos hk, if_pos hk]
      obtain ⟨c, hc⟩ := h (n, k) List.mem_cons_self (by simpa using hk)
      have e : cellOf env n = pure c := by unfold cellOf; rw [hc]
      rw [e]
      have e2 : (env.cells.lookup n).getD 0 = c := by rw [hc]; rfl
      rw [e2]
      exact ih _
    · rw [if_neg hk, if_neg hk]
      exact ih _
theorem closure_ok {scope : Scope} {env : Env} (h : ∀ y ∈ scope.names, y.2 = .free → ∃ c, env.cells.lookup y.1 = some c) : closureFor scope env = pure (cloFrom env.cells scope.names []) := by
  simp only [closureFor]
  rw [closure_loop env _ (fun n k c => rfl) scope.names [] h]
  rfl
theorem mem_lookup {α : Type} : ∀ {l : List (Str × α)} {n : Str} {c : α}, (n, c) ∈ l → ∃ c', l.lookup n = some c'
  | (k, v) :: r, n, c, h => by
    rw [List.lookup_cons]
    cases hb : n == k with
    | true => exact ⟨_, rfl⟩
    | false =>
      rcases List.mem_cons.mp h with e | h
      · cases e; simp at hb
      · exact mem_lookup h
theorem cloFrom_mem {cells : List (Str × Addr)} : ∀ {names : List (Str × NameKind)} {acc : List (Str × Addr)} {n : Str} {c : Addr}, (n, c) ∈ cloFrom cells names acc → (n, c) ∈ acc ∨ ((n, .free) ∈ names ∧ c = (cells.lookup n).getD 0)
  | [], _, _, _, h => .inl h
  | (m, k) :: r, acc, n, c, h => by
    unfold cloFrom at h
    split at h
    · rename_i hk
      have hk : k = .free := by simpa using hk
      rcases cloFrom_mem h with h | ⟨h1, h2⟩
      · rcases List.mem_cons.mp h with e | h
        · cases e; exact .inr ⟨hk ▸ List.mem_cons_self, rfl⟩
        · exact .inl h
      · exact .inr ⟨List.mem_cons_of_mem _ h1, h2⟩
    · rcases cloFrom_mem h with h | ⟨h1, h2⟩
      · exact .inl h
      · exact .inr ⟨List.mem_cons_of_mem _ h1, h2⟩
theorem cloFrom_acc {cells : List (Str × Addr)} : ∀ {names : List (Str × NameKind)} {acc : List (Str × Addr)} {p : Str × Addr}, p ∈ acc → p ∈ cloFrom cells names acc
  | [], _, _, h => h
  | (m, k) :: r, acc, p, h => by
    unfold cloFrom
    split
    · exact cloFrom_acc (List.mem_cons_of_mem _ h)
    · exact cloFrom_acc h
theorem cloFrom_has {cells : List (Str × Addr)} : ∀ {names : List (Str × NameKind)} {acc : List (Str × Addr)} {n : Str}, (n, .free) ∈ names → (n, (cells.lookup n).getD 0) ∈ cloFrom cells names acc
  | (m, k) :: r, acc, n, h => by
    unfold cloFrom
    rcases List.mem_cons.mp h with e | h
    · cases e
      exact cloFrom_acc List.mem_cons_self
    · split
      · exact cloFrom_has h
      · exact cloFrom_has h
theorem cells_mem : ∀ {names : List (Str × NameKind)} {h : Heap} {acc : List (Str × Addr)} {x : Str} {c : Addr}, (x, c) ∈ cellsFrom h.objs.size names acc →
    (x, c) ∈ acc ∨ ((x, .cell) ∈ names ∧ h.objs.size ≤ c ∧ CellAt (pushCells h names) c none)
  | [], _, _, _, _, h => .inl h
  | (n, k) :: r, h, acc, x, c, hm => by
    unfold cellsFrom at hm
    unfold pushCells
    split at hm
    · rename_i hk
      rw [if_pos hk]
      have hk : k = .cell := by simpa using hk
      rw [← Heap.size_push h { cls := .type "cell", data := .cell none }] at hm
      rcases cells_mem hm with hm | ⟨h1, h2, h3⟩
      · rcases List.mem_cons.mp hm with e | hm
        · cases e
          exact .inr ⟨hk ▸ List.mem_cons_self, Nat.le_refl _, _, pushCells_keeps r _ _ _ (Heap.get?_push_size _ rfl), rfl⟩
        · exact .inl hm
      · rw [Heap.size_push] at h2
        exact .inr ⟨List.mem_cons_of_mem _ h1, Nat.le_of_succ_le h2, h3⟩
    · rename_i hk
      rw [if_neg hk]
      rcases cells_mem hm with hm | ⟨h1, h2, h3⟩
      · exact .inl hm
      · exact .inr ⟨List.mem_cons_of_mem _ h1, h2, h3⟩
theorem cells_acc : ∀ {names : List (Str × NameKind)} {n : Nat} {acc : List (Str × Addr)} {p : Str × Addr}, p ∈ acc → p ∈ cellsFrom n names acc
  | [], _, _, _, h => h
  | (m, k) :: r, n, acc, p, h => by
    unfold cellsFrom
    split
    · exact cells_acc (List.mem_cons_of_mem _ h)
    · exact cells_acc h
theorem cells_has : ∀ {names : List (Str × NameKind)} {n : Nat} {acc : List (Str × Addr)} {x : Str}, (x, .cell) ∈ names → ∃ c, (x, c) ∈ cellsFrom n names acc
  | (m, k) :: r, n, acc, x, h => by
    unfold cellsFrom
    rcases List.mem_cons.mp h with e | h
    · cases e
      exact ⟨n, cells_acc List.mem_cons_self⟩
    · split
      · exact cells_has h
      · exact cells_has h
theorem cells_inj : ∀ {names : List (Str × NameKind)} {h : Heap} {acc : List (Str × Addr)} {x y : Str} {c : Addr}, (∀ p ∈ acc, p.2 < h.objs.size) → (∀ x y c, (x, c) ∈ acc → (y, c) ∈ acc → x = y) →
    (x, c) ∈ cellsFrom h.objs.size names acc → (y, c) ∈ cellsFrom h.objs.size names acc → x = y
  | [], _, _, _, _, _, _, hi, h1, h2 => hi _ _ _ h1 h2
  | (n, k) :: r, h, acc, x, y, c, hl, hi, h1, h2 => by
    unfold cellsFrom at h1 h2
    split at h1
    · rename_i hk
      rw [if_pos hk] at h2
      rw [← Heap.size_push h { cls := .type "cell", data := .cell none }] at h1 h2
      refine cells_inj (h := h.push _) (fun p hp => ?_) (fun x y c a b => ?_) h1 h2
      · rw [Heap.size_push]
        rcases List.mem_cons.mp hp with rfl | hp
        · exact Nat.lt_succ_self _
        · exact Nat.lt_succ_of_lt (hl p hp)
      · rcases List.mem_cons.mp a with e | a <;> rcases List.mem_cons.mp b with e' | b
        · cases e; cases e'; rfl
        · cases e; exact absurd (hl _ b) (Nat.lt_irrefl _)
        · cases e'; exact absurd (hl _ a) (Nat.lt_irrefl _)
        · exact hi _ _ _ a b
    · rename_i hk
      rw [if_neg hk] at h2
      exact cells_inj hl hi h1 h2
theorem newEnv_comp {M : Model} {A : Around} {E : Value → Shared → Prop} {s : Shared} {scope : Scope} {globals : Addr} {closure : List (Str × Addr)} {qual : Str} {func : Option Addr} {code : Value} {around : Env} {builtins : Addr} {Q : Env → Shared → Prop}
    (h : Q (newEnv scope s.heap.objs.size globals (cellsFrom (s.heap.objs.size + 1) scope.names closure) qual func code (some around) builtins)
      { s with heap := pushCells (s.heap.push { cls := .type "dict", data := .dict #[] }) scope.names }) :
    wpAny M A (newFunctionEnv scope globals closure [] qual func code (some around) builtins) Q E s := by
  simp only [newFunctionEnv, Option.isSome_some, if_true]
  refine wpAny_bind (wpAny_alloc ?_)
  refine wpAny_bind (wpAny_layCells _ (fun n k c => rfl) scope.names closure _ _ ?_)
  rw [show ({ s with heap := s.heap.push { cls := .type "dict", data := .dict #[] } } : Shared).heap.objs.size = s.heap.objs.size + 1 from Heap.size_push ..]
  rw [List.forIn_nil]
  exact wpAny_bind (wpAny_pure (wpAny_pure h))
theorem lookup_relS {sc : Scope} : ∀ {names : List (Str × NameKind)} {x : Str} {k : NameKind},
    (names.map fun (n, k) => if (k == NameKind.free && sc.kind == .function && sc.names.lookup n == some .cell) then (n, NameKind.cell) else (n, k)).lookup x = some k →
    ∃ k', names.lookup x = some k' ∧ (k = k' ∨ (k' = .free ∧ k = .cell))
  | [], _, _, h => by simp at h
  | (n, k₀) :: r, x, k, h => by
    have ih := @lookup_relS sc r x k
    have h' : List.lookup x ((if (k₀ == NameKind.free && sc.kind == .function && sc.names.lookup n == some .cell) = true then (n, NameKind.cell) else (n, k₀)) :: (r.map _)) = some k := h
    cases hx : x == n with
    | true =>
      simp only [List.lookup_cons, hx]
      by_cases hc : (k₀ == NameKind.free && sc.kind == .function && sc.names.lookup n == some .cell) = true
      · rw [if_pos hc] at h'
        simp only [List.lookup_cons, hx] at h'
        cases h'
        simp only [Bool.and_eq_true, beq_iff_eq] at hc
        exact ⟨k₀, rfl, .inr ⟨hc.1.1, rfl⟩⟩
      · rw [if_neg hc] at h'
        simp only [List.lookup_cons, hx] at h'
        cases h'
        exact ⟨_, rfl, .inl rfl⟩
    | false =>
      simp only [List.lookup_cons, hx]
      by_cases hc : (k₀ == NameKind.free && sc.kind == .function && sc.names.lookup n == some .cell) = true
      · rw [if_pos hc] at h'
        simp only [List.lookup_cons, hx] at h'
        exact ih h'
      · rw [if_neg hc] at h'
        simp only [List.lookup_cons, hx] at h'
        exact ih h'
structure BlkOk (N : List Str) (sc scope : Scope) (own : List (Str × Nat)) : Prop where
  kind : scope.kind = .function
  uniq : ∀ y ∈ scope.names, scope.names.lookup y.1 = some y.2
  ix : ∀ p ∈ own, N[p.2]? = some p.1
  free : ∀ y ∈ scope.names, y.2 = .free → sc.names.lookup y.1 = some .cell ∨ sc.names.lookup y.1 = some .free
  own : ∀ y ∈ scope.names, y.2 = .local ∨ y.2 = .cell → y.1 ∈ own.map (·.1) ∨ y.1 ∉ N
def wipe (σ : St) : List Nat → St
  | [] => σ
  | v :: vs => (wipe σ vs).set v none
theorem wipe_length (σ : St) : ∀ vs : List Nat, (wipe σ vs).length = σ.length
  | [] => rfl
  | v :: vs => by unfold wipe; rw [List.length_set, wipe_length σ vs]
theorem wipe_some {σ : St} {i : Nat} {x : V} : ∀ {vs : List Nat}, (wipe σ vs)[i]? = some (some x) → σ[i]? = some (some x) ∧ i ∉ vs
  | [], h => ⟨h, by simp⟩
  | v :: vs, h => by
    unfold wipe at h
    by_cases hi : v = i
    · subst hi
      by_cases hv : v < (wipe σ vs).length
      · rw [List.getElem?_set_self hv] at h; cases h
      · rw [List.getElem?_eq_none (by simpa using hv)] at h; cases h
    · rw [List.getElem?_set_ne hi] at h
      obtain ⟨h1, h2⟩ := wipe_some h
      exact ⟨h1, by simp only [List.mem_cons, not_or]; exact ⟨fun e => hi e.symm, h2⟩⟩
abbrev Cx.blk (X : Cx) (s : Shared) (H : Hp) (scope : Scope) (cenv : Env) (fp : List Addr) : Cx := { X with s_0 := s, H_0 := H, env := cenv, outer := X.stack, ex := fp, fn := fun x => scope.names.lookup x == some .cell, pn := [], xe := fun _ _ => False }
section
variable {X : Cx} {pins : List (Addr × Obj)} {σ : St} {H : Hp} {s : Shared}
theorem block_start {scope : Scope} {own : List (Str × Nat)} {fp : List Addr} (I : Inv X pins σ H s) (ok : BlkOk X.N X.env.scope scope own) (hN : X.N.Nodup) (hfp : ∀ b ∈ fp, FpOk X pins H b ∧ b < s.heap.objs.size) :
    Inv (X.blk s H scope (compEnvC scope (cellsFrom (s.heap.objs.size + 1) scope.names (cloFrom X.env.cells scope.names [])) s.heap.objs.size X.env) fp) [] (wipe σ (own.map (·.2))) H { s with heap := pushCells (s.heap.push { cls := .type "dict", data := .dict #[] }) scope.names } := by
  have hfree : ∀ y ∈ scope.names, y.2 = .free → ∃ c, X.env.cells.lookup y.1 = some c := fun y hy e => by
    rcases ok.free y hy e with k | k
    · exact I.ok.has _ (.inl k)
    · exact I.ok.has _ (.inr k)
  generalize hcenv : compEnvC scope (cellsFrom (s.heap.objs.size + 1) scope.names (cloFrom X.env.cells scope.names [])) s.heap.objs.size X.env = cenv
  have kp : ∀ b o, s.heap.get? b = some o → (pushCells (s.heap.push { cls := .type "dict", data := .dict #[] }) scope.names).get? b = some o := fun b o e => pushCells_keeps _ _ _ _ (Heap.get?_push_of_some _ e)
  have hL : cenv.locals = s.heap.objs.size := by rw [← hcenv]; rfl
  have hcl : cenv.cells = cellsFrom (s.heap.objs.size + 1) scope.names (cloFrom X.env.cells scope.names []) := by rw [← hcenv]; rfl
  have hsc : cenv.scope = relS scope X.env.scope := by rw [← hcenv]; rfl
  rw [← Heap.size_push s.heap { cls := .type "dict", data := .dict #[] }] at hcl
  have cm : ∀ {y c}, (y, c) ∈ cloFrom X.env.cells scope.names [] → X.env.cells.lookup y = some c ∧ c < s.heap.objs.size := fun {y c} hm => by
    rcases cloFrom_mem hm with hm | ⟨h1, rfl⟩
    · cases hm
    · obtain ⟨c, hc⟩ := hfree _ h1 rfl
      rw [hc]
      obtain ⟨w, z⟩ := I.cell _ _ hc
      exact ⟨rfl, z.lt⟩
  have mem : ∀ {y c}, cenv.cells.lookup y = some c → (X.env.cells.lookup y = some c ∧ c < s.heap.objs.size) ∨ (s.heap.objs.size + 1 ≤ c ∧ CellAt (pushCells (s.heap.push { cls := .type "dict", data := .dict #[] }) scope.names) c none) := fun {y c} e => by
    rw [hcl] at e
    rcases cells_mem (PySem.mem_of_lookup e) with hm | ⟨_, h2, h3⟩
    · exact .inl (cm hm)
    · rw [Heap.size_push] at h2; exact .inr ⟨h2, h3⟩
  have look : ∀ {y}, scope.names.lookup y = some .free → ∃ c, cenv.cells.lookup y = some c ∧ X.env.cells.lookup y = some c := fun {y} hl => by
    have hy : (y, NameKind.free) ∈ scope.names := PySem.mem_of_lookup hl
    obtain ⟨c', e'⟩ := mem_lookup (cells_acc (names := scope.names) (n := (s.heap.push { cls := .type "dict", data := .dict #[] }).objs.size) (cloFrom_has (cells := X.env.cells) (acc := []) hy))
    rw [← hcl] at e'
    refine ⟨c', e', ?_⟩
    rw [hcl] at e'
    rcases cells_mem (PySem.mem_of_lookup e') with hm | ⟨h1, _, _⟩
    · exact (cm hm).1
    · have := ok.uniq _ h1
      rw [hl] at this; cases this
  have okB : (X.blk s H scope cenv fp).Ok := by
    refine ⟨I.ok.mod, by show cenv.scope.kind = _; rw [hsc]; exact ok.kind, by show cenv.globals = _; rw [← hcenv]; exact I.ok.glob, by show cenv.builtins = _; rw [← hcenv]; exact I.ok.blt, by show s.heap.objs.size ≤ cenv.locals; rw [hL]; exact Nat.le_refl _,
      fun y z c e1 e2 => ?_, fun y hy => ?_, fun y c z e => ?_, I.ok.hd, I.ok.frames, .inl rfl, fun b hb => ⟨?_, fun y c e z => ?_⟩, I.bs, Nat.le_trans I.ok.bsz I.sz, fun b o e hb => ?_, fun b hb z => ?_, I.stack, I.stkFree⟩
    · have e1 : cenv.cells.lookup y = some c := e1
      have e2 : cenv.cells.lookup z = some c := e2
      rw [hcl] at e1 e2
      refine cells_inj (fun p hp => ?_) (fun y z c a b => I.ok.inj y z c (cm a).1 (cm b).1) (PySem.mem_of_lookup e1) (PySem.mem_of_lookup e2)
      rw [Heap.size_push]
      exact Nat.lt_succ_of_lt (cm (y := p.1) (c := p.2) hp).2
    · show ∃ c, cenv.cells.lookup y = some c
      have key : ∀ k, cenv.kindOf y = some k → (k = .cell ∨ k = .free) → ∃ c, cenv.cells.lookup y = some c := fun k hk hk' => by
        unfold Env.kindOf at hk
        rw [hsc] at hk
        obtain ⟨k', e, r⟩ := lookup_relS hk
        have : k' = .cell ∨ k' = .free := by
          rcases r with rfl | ⟨rfl, _⟩
          · exact hk'
          · exact .inr rfl
        rcases this with rfl | rfl
        · obtain ⟨c, hm⟩ := cells_has (n := (s.heap.push { cls := .type "dict", data := .dict #[] }).objs.size) (acc := cloFrom X.env.cells scope.names []) (PySem.mem_of_lookup e)
          obtain ⟨c', e'⟩ := mem_lookup hm
          exact ⟨c', by rw [hcl]; exact e'⟩
        · obtain ⟨c, h1, _⟩ := look e
          exact ⟨c, h1⟩
      rcases hy with hy | hy
      · exact key _ hy (.inl rfl)
      · exact key _ hy (.inr rfl)
    · have z : (scope.names.lookup y == some NameKind.cell) = true := z
      have z : scope.names.lookup y = some .cell := by simpa using z
      have e : cenv.cells.lookup y = some c := e
      rw [hcl] at e
      rcases cells_mem (PySem.mem_of_lookup e) with hm | ⟨_, h2, _⟩
      · rcases cloFrom_mem hm with hm | ⟨h1, _⟩
        · cases hm
        · have q := ok.uniq _ h1
          rw [z] at q; cases q
      · rw [Heap.size_push] at h2
        exact Nat.le_of_succ_le h2
    · show b ≠ cenv.locals
      rw [hL]; exact Nat.ne_of_lt (hfp b hb).2
    · have e : cenv.cells.lookup y = some c := e
      rcases mem e with ⟨h1, _⟩ | ⟨h1, _⟩
      · exact (hfp b hb).1.2.2.2.2.1 y c h1 z
      · have h2 : s.heap.objs.size + 1 ≤ b := by rw [← z]; exact h1
        exact absurd (Nat.lt_of_lt_of_le (hfp b hb).2 (Nat.le_of_succ_le h2)) (Nat.lt_irrefl _)
    · rcases (hfp b hb).1.2.2.2.1 with z | z
      · exact I.ok.noex b o e z
      · exact absurd (Nat.lt_of_lt_of_le (Heap.lt_size e) (Nat.le_trans I.ok.bsz z)) (Nat.lt_irrefl _)
    · rcases List.mem_cons.mp (I.stkSub b z) with z | z
      · exact (hfp b hb).1.2.1 z
      · exact (hfp b hb).1.2.2.1 z
  refine ⟨okB, rfl, I.bare, Un.kept kp, ⟨fun _ => none, ?_, fun i y av e1 e2 e3 => ?_⟩, fun y c e => ?_, ?_, fun y c e => ?_, fun p hp => ?_, I.hok.kept kp, by rw [wipe_length]; exact I.len⟩
  · show Heap.Ns _ cenv.locals _
    rw [hL]
    exact Heap.Ns.keeps (Heap.Ns.new ..) fun b o e => pushCells_keeps _ _ _ _ e
  · obtain ⟨e2, hne⟩ := wipe_some e2
    have hfr : scope.names.lookup y = some .free ∧ (cenv.kindOf y = some .cell ∨ cenv.kindOf y = some .free) := by
      have key : ∀ k, cenv.scope.names.lookup y = some k → k = .local ∨ k = .cell ∨ k = .free → scope.names.lookup y = some .free ∧ (cenv.kindOf y = some .cell ∨ cenv.kindOf y = some .free) := fun k hk hk' => by
        have hk0 := hk
        rw [hsc] at hk
        obtain ⟨k', e, r⟩ := lookup_relS hk
        have no : ¬ (k' = .local ∨ k' = .cell) := fun hh => by
          rcases ok.own _ (PySem.mem_of_lookup e) hh with e' | e'
          · obtain ⟨p, hp, hpy⟩ := List.mem_map.mp e'
            have e3 := ok.ix p hp
            have : p.1 = y := hpy
            rw [this] at e3
            exact hne (List.mem_map.mpr ⟨p, hp, nodup_ix hN e3 e1⟩)
          · exact e' (List.mem_of_getElem? e1)
        rcases r with rfl | ⟨rfl, rfl⟩
        · rcases hk' with rfl | rfl | rfl
          · exact absurd (.inl rfl) no
          · exact absurd (.inr rfl) no
          · exact ⟨e, .inr hk0⟩
        · exact ⟨e, .inl hk0⟩
      have e3 : Vis cenv.scope y := e3
      rcases e3 with e3 | e3 | e3
      · exact key _ e3 (.inl rfl)
      · exact key _ e3 (.inr (.inl rfl))
      · exact key _ e3 (.inr (.inr rfl))
    obtain ⟨m, hn, hl⟩ := I.loc
    have hvis : Vis X.env.scope y := (ok.free _ (PySem.mem_of_lookup hfr.1) rfl).elim (fun k => .inr (.inl k)) (fun k => .inr (.inr k))
    obtain ⟨w, r, q⟩ := hl i y av e1 e2 hvis
    refine ⟨w, r, .inr ⟨hfr.2, ?_⟩⟩
    obtain ⟨c, h1, h2⟩ := look hfr.1
    rcases q with ⟨k, _⟩ | ⟨_, c', e', z⟩
    · have k : X.env.scope.names.lookup y = some .local := k
      rcases ok.free _ (PySem.mem_of_lookup hfr.1) rfl with k' | k' <;> rw [show X.env.scope.names.lookup y = _ from k'] at k <;> cases k
    · rw [h2] at e'; cases e'
      exact ⟨c, h1, z.keeps kp⟩
  · have e : cenv.cells.lookup y = some c := e
    rcases mem e with ⟨h1, _⟩ | ⟨_, z⟩
    · obtain ⟨w, z⟩ := I.cell y c h1
      exact ⟨w, z.keeps kp⟩
    · exact ⟨_, z⟩
  · show H cenv.locals = none
    rw [hL]; exact I.hok.fresh (Nat.le_refl _)
  · have e : cenv.cells.lookup y = some c := e
    rcases mem e with ⟨h1, _⟩ | ⟨h1, _⟩
    · exact I.freeC y c h1
    · exact I.hok.fresh (Nat.le_of_succ_le h1)
  · exact absurd (show p ∈ ([] : List (Addr × Obj)) ++ [] from hp) (by simp)
theorem app_ok {E : Value → Shared → Prop} {D : Addr} {xs : List V} {y : V} {v : Value} {Q : Value → Shared → Prop} (I : Inv X pins σ H s) (hD : H D = some (.lst xs)) (hz : xs.length < sizeLine) (r : RelV y v)
    (h : ∀ s', Inv X pins σ (upd H D (.lst (xs ++ [y]))) s' → Q .none s') : wpAny (model X.prog X.w) X.A (call (.builtin "list.append") [.ref D, v]) Q E s := by
  obtain ⟨hz', its, n, ri, e⟩ := I.hok D _ hD
  have hl := ri.length
  refine append_at (hsz := by rw [List.size_toArray]; omega) e fun h' sb ho' => ?_
  refine h { s with heap := h' } (I.write (t' := s.toks) (by rw [hD]; trivial) (.inl rfl) (fun b u hb q => (sb.2 b hb).trans q) ⟨_, ho'⟩ ⟨by rw [List.length_append]; exact hz, its ++ [v], n + 1, ri.append (.cons r .nil), ?_⟩)
  rw [ho']
  simp
def PTs (X : Cx) (ifs : List Expr) (t : TT) : Prop :=
  ∀ (pins : List (Addr × Obj)) (s : Shared) (σ : St) (H : Hp) (Q : Bool → Hp → Prop), Inv X pins σ H s → t σ H Q →
    wpAny (model X.prog X.w) X.A (forIn ifs true fun c r => if r = true then do let ok ← isTrue c X.env (eval c X.env); pure (ForInStep.yield ok) else pure (ForInStep.yield r)) (TP X pins σ Q) X.xe s
def tYes : TT := fun _ H Q => Q true H
theorem pts_nil : PTs X [] tYes := fun _ _ _ H _ I h => wpAny_tests_nil ⟨H, I, h⟩
theorem pts_one {c : Expr} {t : TT} (h : PT X c t) : PTs X [c] t := fun pins s σ H Q I hw => wpAny_tests_one (h pins s σ H Q I hw)
end
theorem thnF {α : Type} {t : Sem α} {Q Q' : α → Shared → Prop} {M : Model} {A : Around} {E : Value → Shared → Prop} {s : Shared} (h : wpAny M A t Q (fun _ _ => False) s) (hQ : ∀ a s, Q a s → Q' a s) : wpAny M A t Q' E s := wpAny_mono h hQ fun _ _ z => False.elim z
theorem compLoop_any {prog : Program} {w : World} {A : Around} {R : Result → Shared → Prop} {s : Shared} {elt target iter : Expr} {ifs : List Expr} {scope : Scope} {pos : Pos} {it acc : Value} {env : Env} (I : Nat → Shared → Prop)
    (turn : ∀ n s, I n s → wpAny (model prog w) A (pyNext it) (fun r s₁ => match r with
      | none => R (.ok .next) s₁
      | some v => wpAny (model prog w) A (letOwnedTupleGo target it v) (fun _ s₁' => wpAny (model prog w) A (assign target env v) (fun _ s₂ =>
          wpAny (model prog w) A (forIn ifs true fun c r => if r = true then do let ok ← isTrue c env (eval c env); pure (ForInStep.yield ok) else pure (ForInStep.yield r)) (fun ok s₃ =>
            if ok = true then wpAny (model prog w) A (eval elt env) (fun x s₄ =>
              wpAny (model prog w) A (call (.builtin "list.append") [acc, x]) (fun _ s₅ => ∃ m, m < n ∧ I m s₅) (notedBy (model prog w) A env fun e s' => R (.error e) s') s₄) (notedBy (model prog w) A env fun e s' => R (.error e) s') s₃
            else ∃ m, m < n ∧ I m s₃) (notedBy (model prog w) A env fun e s' => R (.error e) s') s₂) (notedBy (model prog w) A env fun e s' => R (.error e) s') s₁') (notedBy (model prog w) A env fun e s' => R (.error e) s') s₁) (notedBy (model prog w) A env fun e s' => R (.error e) s') s)
    (n : Nat) (h : I n s) :
    codeAny (model prog w) A (.compLoop (.ListComp elt [⟨target, iter, ifs, 0⟩] scope pos) 0 it acc env) R s := by
  refine codeAny_loop rfl I (fun n s hI => ?_) n h
  show wpAny _ A ((compTurn (.ListComp elt [⟨target, iter, ifs, 0⟩] scope pos) 0 it acc env).onRaise (fun x => do noteFrame x env; theTreesLotGoes x)) _ _ s
  refine wpAny_noted ?_
  rw [compTurn_list]
  refine wpAny_bind (wpAny_standAt (wpAny_bind (wpAny_mono (turn n s hI) (fun r s₁ h₁ => ?_) fun _ _ h' => h')))
  cases r with
  | none => exact wpAny_pure h₁
  | some v =>
    refine wpAny_bind (wpAny_mono h₁ (fun _ s₁' h₁' => ?_) fun _ _ h' => h')
    refine wpAny_bind (wpAny_mono h₁' (fun _ s₂ h₂ => wpAny_bind (wpAny_mono h₂ (fun ok s₃ h₃ => ?_) fun _ _ h' => h')) fun _ _ h' => h')
    cases ok with
    | false => exact wpAny_pure ⟨rfl, h₃⟩
    | true =>
      exact wpAny_bind (wpAny_bind (wpAny_mono h₃ (fun x s₄ h₄ => wpAny_bind (wpAny_mono h₄ (fun _ s₅ h₅ => wpAny_pure (wpAny_pure ⟨rfl, h₅⟩)) fun _ _ h' => h')) fun _ _ h' => h'))
section
variable {X : Cx}
def tLc (wi : TI) (g : TG) (tt : TT) (te : TE) (vs : List Nat) : TE := fun σ H Q => wi σ H fun J H1 => ∀ D, H1 D = none → ∃ W : Nat → Nat → Hp → Prop, (∃ m, W 0 m (upd H1 D (.lst []))) ∧ ∀ i m H, W i m H →
  (J.stop i H ∧ Q (.ref D) H) ∨ (J.go i H ∧ ∃ Nx : Hp → Prop, (∀ H', Nx H' → ∃ m', m' < m ∧ W (i + 1) m' H') ∧ ∀ x H', J.yld i H x H' → g x (wipe σ vs) H' fun σ2 H2 => wipe σ2 vs = wipe σ vs ∧ tt σ2 H2 fun b H3 =>
    if b = true then te σ2 H3 fun y H4 => ∃ acc, H4 D = some (.lst acc) ∧ acc.length < sizeLine ∧ Nx (upd H4 D (.lst (acc ++ [y]))) else Nx H3)
theorem lc_core {pins : List (Addr × Obj)} {s : Shared} {σ : St} {H : Hp} {Q : VK} {elt tg iter : Expr} {ifs : List Expr} {scope : Scope} {own : List (Str × Nat)} {pos pos' : Pos} {wi : TI} {g : TG} {tt : TT} {te : TE} {use : Option (Value → Sem Unit)} {Qf : Value → Shared → Prop}
    (hc : X.calm = true) (hN : X.N.Nodup) (I : Inv X pins σ H s) (hi : PI X tg iter wi) (ok : BlkOk X.N X.env.scope scope own)
    (hg : ∀ (s : Shared) (H : Hp) (C : Addr) (cl : List (Str × Addr)) (fp : List Addr), PG (X.blk s H scope (compEnvC scope cl C X.env) fp) tg g) (ht : ∀ (s : Shared) (H : Hp) (C : Addr) (cl : List (Str × Addr)) (fp : List Addr), PTs (X.blk s H scope (compEnvC scope cl C X.env) fp) ifs tt)
    (he : ∀ (s : Shared) (H : Hp) (C : Addr) (cl : List (Str × Addr)) (fp : List Addr), PE (X.blk s H scope (compEnvC scope cl C X.env) fp) elt te) (hs : ∀ x, foldedSetIterable iter X.env x = pure x)
    (h : tLc wi g tt te (own.map (·.2)) σ H Q)
    (hRR : ∀ D C s' m H', Inv X pins σ H' s' → Q (.ref D) H' → s'.heap.Ns C m → FpOk X pins H' C → compPost (model X.prog X.w) X.A X.xe use Qf (.ref D) C (.ok .next) s') :
    wpAny (model X.prog X.w) X.A (comprehension (.ListComp elt [⟨tg, iter, ifs, 0⟩] scope pos) scope X.env pos' (newList []) false (eval iter X.env) use) Qf X.xe s := by
  have hfree : ∀ y ∈ scope.names, y.2 = .free → ∃ c, X.env.cells.lookup y.1 = some c := fun y hy e => by
    rcases ok.free y hy e with k | k
    · exact I.ok.has _ (.inl k)
    · exact I.ok.has _ (.inr k)
  refine wpAny_comprehension_free (use := use) rfl hs (closure_ok hfree) ok.kind (fun y hy e => by rw [ok.uniq y hy, e])
    (thn (hi pins s σ H _ I h) fun xv s1 hx => thn hx fun itv s2 h2 => ?_)
  obtain ⟨it, fp, tn, J, H2, e, I2, T, st2, f2, q⟩ := h2
  subst e
  refine wpAny_newObj_type (newEnv_comp ?_) (by show 0 ≤ sizeLine; decide)
  generalize hD : s2.heap.objs.size = D
  have hDn : H2 D = none := I2.hok.fresh (Nat.le_of_eq hD)
  obtain ⟨W, ⟨m0, w0⟩, turn⟩ := q D hDn
  generalize hs3 : ({ s2 with heap := s2.heap.push { cls := .type "list", data := .seq ([] : List Value).toArray } } : Shared) = s3
  have I3 : Inv X pins σ (upd H2 D (.lst [])) s3 := by
    rw [← hs3]
    refine I2.laid (t' := s2.toks) (fun b o e => Heap.get?_push_of_some _ e) (Nat.le_of_eq hD) ⟨Nat.zero_le _, [], 0, .nil, ?_⟩
    rw [← hD]
    exact Heap.get?_push_size _ rfl
  have h3 : s3.heap = s2.heap.push { cls := .type "list", data := .seq ([] : List Value).toArray } := by rw [← hs3]
  have sz : ∀ b ∈ fp, b < s2.heap.objs.size := fun b hb => by
    obtain ⟨o, e, _⟩ := T.obj _ _ st2 b hb
    exact Heap.lt_size e
  have f3 : ∀ b ∈ fp, FpOk X pins (upd H2 D (.lst [])) b ∧ b < s3.heap.objs.size := fun b hb => by
    have hlt := sz b hb
    refine ⟨⟨?_, (f2 b hb).2⟩, by rw [h3, Heap.size_push]; exact Nat.lt_succ_of_lt hlt⟩
    rw [upd_ne (by rw [← hD]; exact Nat.ne_of_lt hlt)]
    exact (f2 b hb).1
  have st3 : tn 0 s3.heap := T.keep _ _ _ st2 fun b _ o e => by rw [h3]; exact Heap.get?_push_of_some _ e
  have I4 := block_start I3 ok hN f3
  have pg := hg s3 (upd H2 D (.lst [])) s3.heap.objs.size (cellsFrom (s3.heap.objs.size + 1) scope.names (cloFrom X.env.cells scope.names [])) fp
  have pt := ht s3 (upd H2 D (.lst [])) s3.heap.objs.size (cellsFrom (s3.heap.objs.size + 1) scope.names (cloFrom X.env.cells scope.names [])) fp
  have pe := he s3 (upd H2 D (.lst [])) s3.heap.objs.size (cellsFrom (s3.heap.objs.size + 1) scope.names (cloFrom X.env.cells scope.names [])) fp
  show codeAny _ _ (.compStart (.ListComp elt [⟨tg, iter, ifs, 0⟩] scope pos) 0 (.ref it) (.ref D) (compEnvC scope (cellsFrom (s3.heap.objs.size + 1) scope.names (cloFrom X.env.cells scope.names [])) s3.heap.objs.size X.env)) (compPost (model X.prog X.w) X.A X.xe use Qf (.ref D) s3.heap.objs.size) { s3 with heap := pushCells (s3.heap.push { cls := .type "dict", data := .dict #[] }) scope.names }
  have nfp : ∀ b ∈ fp, (upd H2 D (.lst [])) b = none := fun b hb => (f3 b hb).1.1
  generalize hce : compEnvC scope (cellsFrom (s3.heap.objs.size + 1) scope.names (cloFrom X.env.cells scope.names [])) s3.heap.objs.size X.env = ce at I4 pg pt pe ⊢
  have cL : ce.locals = s3.heap.objs.size := by subst hce; rfl
  generalize hH3 : upd H2 D (.lst []) = H3 at I3 I4 pg pt pe w0 nfp f3
  generalize hs4 : ({ s3 with heap := pushCells (s3.heap.push { cls := .type "dict", data := .dict #[] }) scope.names } : Shared) = s4 at I4 ⊢
  have st4 : tn 0 s4.heap := T.keep _ _ _ st3 fun b _ o e => by rw [← hs4]; exact pushCells_keeps _ _ _ _ (Heap.get?_push_of_some _ e)
  have stat : ∀ {σ' : St} {H' : Hp} {s' : Shared}, Inv (X.blk s3 H3 scope ce fp) [] σ' H' s' → (∀ b ∈ fp, H' b = none) → ∀ b ∈ fp, FpOk (X.blk s3 H3 scope ce fp) [] H' b := fun {σ' H' s'} I' hn b hb =>
    ⟨hn b hb, (I'.ok.exf b hb).1, I'.ok.exfs b hb, .inl hb, fun x c e => (I'.ok.exf b hb).2 x c e, fun p hp => absurd (show p ∈ ([] : List (Addr × Obj)) ++ [] from hp) (by simp)⟩
  have loop : codeAny (model X.prog X.w) X.A (.compLoop (.ListComp elt [⟨tg, iter, ifs, 0⟩] scope pos) 0 (.ref it) (.ref D) ce) (compPost (model X.prog X.w) X.A X.xe use Qf (.ref D) s3.heap.objs.size) s4 := by
    refine compLoop_any (fun n s' => ∃ i H', Inv (X.blk s3 H3 scope ce fp) [] (wipe σ (own.map (·.2))) H' s' ∧ tn i s'.heap ∧ (∀ b ∈ fp, H' b = none) ∧ W i n H') ?_ m0 ⟨0, H3, I4, st4, nfp, w0⟩
    rintro n s5 ⟨i, H5, I5, st5, n5, w5⟩
    rcases turn i n H5 w5 with ⟨stop, qq⟩ | ⟨go, Nx, hNx, step⟩
    · have td := T.done (X.blk s3 H3 scope ce fp) rfl rfl rfl hc i [] s5 _ H5 (fun _ _ => False) I5 (stat I5 n5) st5 stop
      refine thnF td fun r s6 ⟨hr, I6⟩ => ?_
      subst hr
      have I7 : Inv X pins σ H5 s6 := I3.call' (ch := fp) I6.os I6.base I6.hok I6.bare fun b hb => ⟨(f3 b hb).1.2.2.2.1, (f3 b hb).1.2.1, (f3 b hb).1.2.2.2.2.1, (f3 b hb).1.2.2.2.2.2⟩
      have nC : H5 s3.heap.objs.size = none := by
        have z : H5 ce.locals = none := I6.free
        rw [cL] at z
        exact z
      obtain ⟨m, hn, _⟩ := I6.loc
      have hn : s6.heap.Ns ce.locals m := hn
      rw [cL] at hn
      exact hRR D s3.heap.objs.size s6 m H5 I7 qq hn (I3.fpOk (Nat.le_refl _) nC)
    · have ti := T.item (X.blk s3 H3 scope ce fp) rfl rfl rfl hc i [] s5 _ H5 (fun _ _ => False) I5 (stat I5 n5) st5 go
      refine thnF ti fun r s6 ⟨u, hr, h6⟩ => ?_
      subst hr
      refine thnF h6 fun _ s7 ⟨x, H7, I7, r7, y7, st7, n7⟩ => ?_
      have I7' := I7.pinned (stat I7 n7) (T.obj _ _ st7)
      refine thnF (pg _ s7 _ H7 x u _ I7' r7 (step x H7 y7)) fun _ s8 ⟨σ8, H8, I8, hw8, q8⟩ => ?_
      refine thnF (pt _ s8 σ8 H8 _ I8 q8) fun b s9 ⟨H9, I9, q9⟩ => ?_
      have fin : ∀ {s' : Shared} {H' : Hp}, Inv (X.blk s3 H3 scope ce fp) ([] ++ pinsAt fp s7.heap) σ8 H' s' → Nx H' → ∃ m, m < n ∧ ∃ i H', Inv (X.blk s3 H3 scope ce fp) [] (wipe σ (own.map (·.2))) H' s' ∧ tn i s'.heap ∧ (∀ b ∈ fp, H' b = none) ∧ W i m H' := fun {s' H'} I' nx => by
        obtain ⟨m', hm, w'⟩ := hNx H' nx
        have pin' : ∀ b ∈ fp, ∀ o, s7.heap.get? b = some o → s'.heap.get? b = some o ∧ H' b = none := fun b hb o e =>
          let z := I'.pin (b, o) (List.mem_append_right _ (List.mem_append_right _ (mem_pinsAt hb e)))
          ⟨z.1, z.2.1⟩
        have hl : (wipe σ (own.map (·.2))).length = σ8.length := by rw [← hw8, wipe_length]
        refine ⟨m', hm, i + 1, H', (I'.unpinned (pins := [])).weak hl (fun j v e => ?_), T.keep _ _ _ st7 fun b hb o e => (pin' b hb o e).1, fun b hb => ?_, w'⟩
        · rw [← hw8] at e
          exact (wipe_some e).1
        · obtain ⟨o, e, _⟩ := T.obj _ _ st7 b hb
          exact (pin' b hb o e).2
      cases b with
      | false =>
        simp only [Bool.false_eq_true, if_false] at q9 ⊢
        exact fin I9 q9
      | true =>
        simp only [if_true] at q9 ⊢
        refine thnF (pe _ s9 σ8 H9 _ I9 q9) fun z s10 ⟨yv, H10, I10, r10, acc, hD10, hz10, nx⟩ => ?_
        exact app_ok (X := X.blk s3 H3 scope ce fp) I10 hD10 hz10 r10 fun s11 I11 => fin I11 nx
  exact codeAny_compStart_list loop (T.self X.A 0 _ _ _ st4 loop)
theorem pe_lc {elt tg iter : Expr} {ifs : List Expr} {scope : Scope} {own : List (Str × Nat)} {pos : Pos} {wi : TI} {g : TG} {tt : TT} {te : TE} (hc : X.calm = true) (hN : X.N.Nodup) (hi : PI X tg iter wi) (ok : BlkOk X.N X.env.scope scope own)
    (hg : ∀ (s : Shared) (H : Hp) (C : Addr) (cl : List (Str × Addr)) (fp : List Addr), PG (X.blk s H scope (compEnvC scope cl C X.env) fp) tg g) (ht : ∀ (s : Shared) (H : Hp) (C : Addr) (cl : List (Str × Addr)) (fp : List Addr), PTs (X.blk s H scope (compEnvC scope cl C X.env) fp) ifs tt)
    (he : ∀ (s : Shared) (H : Hp) (C : Addr) (cl : List (Str × Addr)) (fp : List Addr), PE (X.blk s H scope (compEnvC scope cl C X.env) fp) elt te) (hs : ∀ x, foldedSetIterable iter X.env x = pure x := by intro _; rfl) :
    PE X (.ListComp elt [⟨tg, iter, ifs, 0⟩] scope pos) (tLc wi g tt te (own.map (·.2))) := by
  intro pins s σ H Q I h
  rw [eval_ListComp]
  refine lc_core hc hN I hi ok hg ht he hs h fun D C s' m H' I' q hn f => ⟨m, hn, fun h'' sb => ?_⟩
  obtain ⟨f0, f1, f2, f3, f4, f5⟩ := f
  exact ⟨.ref D, H', I'.turned (t' := s'.toks) (fun b o hb e => (sb.2 b hb).trans e) f0 f1 f3 f4 f5, rfl, q⟩
theorem ps_setLc {i : Nat} {y : Str} {py : Pos} {elt tg iter : Expr} {ifs : List Expr} {scope : Scope} {own : List (Str × Nat)} {pos spos : Pos} {wi : TI} {g : TG} {tt : TT} {te : TE} (hc : X.calm = true) (hN : X.N.Nodup) (hy : X.N[i]? = some y) (hyl : X.env.scope.names.lookup y = some .local)
    (hsw : swapsWith (.ListComp elt [⟨tg, iter, ifs, 0⟩] scope pos) (some (.Name y py)) spos.line X.env = pure true) (hi : PI X tg iter wi) (ok : BlkOk X.N X.env.scope scope own)
    (hg : ∀ (s : Shared) (H : Hp) (C : Addr) (cl : List (Str × Addr)) (fp : List Addr), PG (X.blk s H scope (compEnvC scope cl C X.env) fp) tg g) (ht : ∀ (s : Shared) (H : Hp) (C : Addr) (cl : List (Str × Addr)) (fp : List Addr), PTs (X.blk s H scope (compEnvC scope cl C X.env) fp) ifs tt)
    (he : ∀ (s : Shared) (H : Hp) (C : Addr) (cl : List (Str × Addr)) (fp : List Addr), PE (X.blk s H scope (compEnvC scope cl C X.env) fp) elt te) (hs : ∀ x, foldedSetIterable iter X.env x = pure x := by intro _; rfl) :
    PS X (.Assign [.Name y py] (.ListComp elt [⟨tg, iter, ifs, 0⟩] scope pos) spos) (tAsg (tLc wi g tt te (own.map (·.2))) (gName i)) := by
  intro pins s σ H D I h
  rw [exec_Assign_Name_used _ _ _ _ hsw]
  refine wpAny_bind (wpAny_standAt (wpAny_bind ?_))
  show wpAny _ X.A (do let _ ← comprehension (.ListComp elt [⟨tg, iter, ifs, 0⟩] scope pos) scope X.env (firstIterPos [⟨tg, iter, ifs, 0⟩] pos) (newList []) false (eval iter X.env) (some (assign (.Name y py) X.env))) _ _ s
  have h : tLc wi g tt te (own.map (·.2)) σ H (fun x H1 => gName i x σ H1 D.nx) := h
  refine wpAny_bind (thn (lc_core (Qf := fun _ s' => SP X pins D .next s') hc hN I hi ok hg ht he hs h fun L C s' m H' I' q hn f => ?_) fun _ s' hq => wpAny_pure (wpAny_pure hq))
  show wpAny _ _ (assign (.Name y py) X.env (.ref L)) _ _ _
  refine wpAny_assign_Name (store_ok2 (v := V.ref L) I' hN hy (.inl hyl) rfl (fun s2 I2 ⟨a, sb, ha⟩ => ?_) (.inr hyl))
  obtain ⟨f0, f1, f2, f3, f4, f5⟩ := f
  have haC : C ≠ a := by
    rcases ha with z | z
    · rw [z]; exact f1
    · exact fun e => f4 y a z e.symm
  refine ⟨m, hn.sameBut sb haC, fun h3 sb3 => ?_⟩
  exact ⟨_, H', I2.turned (t' := s2.toks) (fun b o hb e => (sb3.2 b hb).trans e) f0 f1 f3 f4 f5, q⟩
theorem sw_true {elt : Expr} {gs : List Comprehension} {scope : Scope} {pos py : Pos} {y : Str} {l : Nat} {env : Env} (hk : env.scope.kind = .function) (hy : env.scope.names.lookup y = some .local) (hl : (py.line == pos.line) = true)
    (ha : (scope.names.any fun (n, k) => n == y && (k == .local || k == .cell)) = false) : swapsWith (.ListComp elt gs scope pos) (some (.Name y py)) l env = pure true := by
  have ky : env.kindOf y = some .local := hy
  have hb : env.blockKind = .function := by unfold Env.blockKind; rw [hk]; rfl
  unfold swapsWith
  simp only [hb, ky, ha, Expr.pos, hl]
  rfl
end
theorem lc_range {lo : Int} {n : Nat} {g : TG} {tt : TT} {te : TE} {vs : List Nat} {σ : St} {H1 : Hp} {D : Addr} {Qd : Hp → Prop} (Pv : Nat → Hp → Prop) (h0 : Pv 0 (upd H1 D (.lst [])))
    (hs : ∀ i H, i < n → Pv i H → g (.int (lo + i)) (wipe σ vs) H fun σ2 H2 => wipe σ2 vs = wipe σ vs ∧ tt σ2 H2 fun b H3 =>
      if b = true then te σ2 H3 fun y H4 => ∃ acc, H4 D = some (.lst acc) ∧ acc.length < sizeLine ∧ Pv (i + 1) (upd H4 D (.lst (acc ++ [y]))) else Pv (i + 1) H3) (hd : ∀ H, Pv n H → Qd H) :
    ∃ W : Nat → Nat → Hp → Prop, (∃ m, W 0 m (upd H1 D (.lst []))) ∧ ∀ i m H, W i m H →
      ((Itr lo n).stop i H ∧ Qd H) ∨ ((Itr lo n).go i H ∧ ∃ Nx : Hp → Prop, (∀ H', Nx H' → ∃ m', m' < m ∧ W (i + 1) m' H') ∧ ∀ x H', (Itr lo n).yld i H x H' → g x (wipe σ vs) H' fun σ2 H2 => wipe σ2 vs = wipe σ vs ∧ tt σ2 H2 fun b H3 =>
        if b = true then te σ2 H3 fun y H4 => ∃ acc, H4 D = some (.lst acc) ∧ acc.length < sizeLine ∧ Nx (upd H4 D (.lst (acc ++ [y]))) else Nx H3) := by
  refine ⟨fun i m H => m = n - i ∧ i ≤ n ∧ Pv i H, ⟨n, by simp, Nat.zero_le _, h0⟩, ?_⟩
  rintro i m H ⟨rfl, hi, p⟩
  by_cases hlt : i < n
  · refine .inr ⟨hlt, Pv (i + 1), fun H' p' => ⟨n - (i + 1), by omega, rfl, hlt, p'⟩, fun x H' y => ?_⟩
    obtain ⟨e, y⟩ := y
    subst e y
    exact hs i _ hlt p
  · have e : i = n := by omega
    subst e
    exact .inl ⟨Nat.le_refl _, hd H p⟩
theorem lc_list {K : PySem.W.Frag} {a : Addr} {xs : List V} {g : TG} {tt : TT} {te : TE} {vs : List Nat} {σ : St} {H1 : Hp} {D : Addr} {Qd : Hp → Prop} (Pv : Nat → Hp → Prop) (h0 : Pv 0 (upd H1 D (.lst []))) (hl : ∀ i H, i ≤ xs.length → Pv i H → SqL K H a xs)
    (hs : ∀ i x H, xs[i]? = some x → Pv i H → g x (wipe σ vs) H fun σ2 H2 => wipe σ2 vs = wipe σ vs ∧ tt σ2 H2 fun b H3 =>
      if b = true then te σ2 H3 fun y H4 => ∃ acc, H4 D = some (.lst acc) ∧ acc.length < sizeLine ∧ Pv (i + 1) (upd H4 D (.lst (acc ++ [y]))) else Pv (i + 1) H3) (hd : ∀ H, Pv xs.length H → Qd H) :
    ∃ W : Nat → Nat → Hp → Prop, (∃ m, W 0 m (upd H1 D (.lst []))) ∧ ∀ i m H, W i m H →
      ((Itl K a).stop i H ∧ Qd H) ∨ ((Itl K a).go i H ∧ ∃ Nx : Hp → Prop, (∀ H', Nx H' → ∃ m', m' < m ∧ W (i + 1) m' H') ∧ ∀ x H', (Itl K a).yld i H x H' → g x (wipe σ vs) H' fun σ2 H2 => wipe σ2 vs = wipe σ vs ∧ tt σ2 H2 fun b H3 =>
        if b = true then te σ2 H3 fun y H4 => ∃ acc, H4 D = some (.lst acc) ∧ acc.length < sizeLine ∧ Nx (upd H4 D (.lst (acc ++ [y]))) else Nx H3) := by
  refine ⟨fun i m H => m = xs.length - i ∧ i ≤ xs.length ∧ Pv i H, ⟨xs.length, by simp, Nat.zero_le _, h0⟩, ?_⟩
  rintro i m H ⟨rfl, hi, p⟩
  have q := hl i H hi p
  by_cases hlt : i < xs.length
  · refine .inr ⟨⟨xs, xs[i], q, by simp [hlt]⟩, Pv (i + 1), fun H' p' => ⟨xs.length - (i + 1), by omega, rfl, hlt, p'⟩, fun x H' y => ?_⟩
    obtain ⟨e, y⟩ := y
    subst e
    exact hs i x _ (y xs q) p
  · have e : i = xs.length := by omega
    subst e
    exact .inl ⟨⟨xs, q, Nat.le_refl _⟩, hd H p⟩
theorem lc_tup {K : PySem.W.Frag} {a : Addr} {xs : List V} {g : TG} {tt : TT} {te : TE} {vs : List Nat} {σ : St} {H1 : Hp} {D : Addr} {Qd : Hp → Prop} (Pv : Nat → Hp → Prop) (h0 : Pv 0 (upd H1 D (.lst []))) (hl : ∀ i H, i ≤ xs.length → Pv i H → SqT K H a xs)
    (hs : ∀ i x H, xs[i]? = some x → Pv i H → g x (wipe σ vs) H fun σ2 H2 => wipe σ2 vs = wipe σ vs ∧ tt σ2 H2 fun b H3 =>
      if b = true then te σ2 H3 fun y H4 => ∃ acc, H4 D = some (.lst acc) ∧ acc.length < sizeLine ∧ Pv (i + 1) (upd H4 D (.lst (acc ++ [y]))) else Pv (i + 1) H3) (hd : ∀ H, Pv xs.length H → Qd H) :
    ∃ W : Nat → Nat → Hp → Prop, (∃ m, W 0 m (upd H1 D (.lst []))) ∧ ∀ i m H, W i m H →
      ((Itt K a).stop i H ∧ Qd H) ∨ ((Itt K a).go i H ∧ ∃ Nx : Hp → Prop, (∀ H', Nx H' → ∃ m', m' < m ∧ W (i + 1) m' H') ∧ ∀ x H', (Itt K a).yld i H x H' → g x (wipe σ vs) H' fun σ2 H2 => wipe σ2 vs = wipe σ vs ∧ tt σ2 H2 fun b H3 =>
        if b = true then te σ2 H3 fun y H4 => ∃ acc, H4 D = some (.lst acc) ∧ acc.length < sizeLine ∧ Nx (upd H4 D (.lst (acc ++ [y]))) else Nx H3) := by
  refine ⟨fun i m H => m = xs.length - i ∧ i ≤ xs.length ∧ Pv i H, ⟨xs.length, by simp, Nat.zero_le _, h0⟩, ?_⟩
  rintro i m H ⟨rfl, hi, p⟩
  have q := hl i H hi p
  by_cases hlt : i < xs.length
  · refine .inr ⟨⟨xs, xs[i], q, by simp [hlt]⟩, Pv (i + 1), fun H' p' => ⟨xs.length - (i + 1), by omega, rfl, hlt, p'⟩, fun x H' y => ?_⟩
    obtain ⟨e, y⟩ := y
    subst e
    exact hs i x _ (y xs q) p
  · have e : i = xs.length := by omega
    subst e
    exact .inl ⟨⟨xs, q, Nat.le_refl _⟩, hd H p⟩
def blkC (N : List Str) (sc scope : Scope) (own : List (Str × Nat)) : Bool :=
  (match scope.kind with | .function => true | _ => false) && (scope.names.all fun y => decide (scope.names.lookup y.1 = some y.2)) && (own.all fun p => decide (N[p.2]? = some p.1)) &&
    (scope.names.all fun y => match y.2 with
      | .free => (match sc.names.lookup y.1 with | some .cell => true | some .free => true | _ => false)
      | .local => decide (y.1 ∈ own.map (·.1)) || decide (y.1 ∉ N)
      | .cell => decide (y.1 ∈ own.map (·.1)) || decide (y.1 ∉ N)
      | _ => true)
theorem blkOk_by {N : List Str} {sc scope : Scope} {own : List (Str × Nat)} (h : blkC N sc scope own = true) : BlkOk N sc scope own := by
  unfold blkC at h
  simp only [Bool.and_eq_true, List.all_eq_true, decide_eq_true_eq] at h
  obtain ⟨⟨⟨h1, h2⟩, h3⟩, h4⟩ := h
  refine ⟨?_, h2, h3, fun y hy e => ?_, fun y hy e => ?_⟩
  · split at h1
    · assumption
    · cases h1
  · have q := h4 y hy
    simp only [e] at q
    split at q <;> first | exact .inl (by assumption) | exact .inr (by assumption) | cases q
  · have q := h4 y hy
    rcases e with e | e <;> (simp only [e, Bool.or_eq_true, decide_eq_true_eq] at q; exact q)
end L2
namespace L2
open PySem PySem.Spec PyProof.Rows
section
variable {prog : Program} {w : World} {A : Around} {R : Result → Shared → Prop} {s : Shared} {elt t0 i0 t1 i1 : Expr} {ifs0 ifs1 : List Expr} {scope : Scope} {pos : Pos} {it acc : Value} {env : Env}
end
section
variable {X : Cx}
end
end L2
namespace L2
open PySem PySem.Spec PyProof.Rows
section
variable {κ : Type} [DecidableEq κ]
def valV (kvs : List (κ × V)) (k : κ) : Option V := (kvs.find? fun kv => decide (kv.1 = k)).map (·.2)
def putK (kvs : List (κ × V)) (k : κ) (v : V) : List (κ × V) :=
  if (kvs.any fun kv => decide (kv.1 = k)) = true then kvs.map (fun kv => if kv.1 = k then (kv.1, v) else kv) else kvs ++ [(k, v)]
def dropK (kvs : List (κ × V)) (k : κ) : List (κ × V) := kvs.filter fun kv => decide (kv.1 ≠ k)
theorem valV_pos {p : κ × V} {r : List (κ × V)} {k : κ} (e : p.1 = k) : valV (p :: r) k = some p.2 := by simp [valV, List.find?_cons, e]
theorem valV_neg {p : κ × V} {r : List (κ × V)} {k : κ} (e : ¬ p.1 = k) : valV (p :: r) k = valV r k := by simp [valV, List.find?_cons, e]
theorem valV_any (k : κ) : ∀ kvs : List (κ × V), (kvs.any fun kv => decide (kv.1 = k)) = (valV kvs k).isSome
  | [] => rfl
  | p :: r => by
    rw [List.any_cons]
    by_cases e : p.1 = k
    · simp only [valV_pos e, decide_eq_true e, Bool.true_or, Option.isSome_some]
    · rw [valV_neg e, decide_eq_false e, Bool.false_or]; exact valV_any k r
theorem valV_map (k j : κ) (y : V) : ∀ kvs : List (κ × V), valV (kvs.map fun kv => if kv.1 = k then (kv.1, y) else kv) j = (valV kvs j).map fun x => if j = k then y else x
  | [] => rfl
  | p :: r => by
    have ih := valV_map k j y r
    rw [List.map_cons]
    by_cases h : p.1 = k
    · rw [if_pos h]
      by_cases e : p.1 = j
      · rw [valV_pos (p := (p.1, y)) e, valV_pos e, Option.map_some, if_pos (e.symm.trans h)]
      · rw [valV_neg (p := (p.1, y)) e, valV_neg e, ih]
    · rw [if_neg h]
      by_cases e : p.1 = j
      · rw [valV_pos (p := p) e, valV_pos e, Option.map_some, if_neg (fun z => h (e.trans z))]
      · rw [valV_neg (p := p) e, valV_neg e, ih]
theorem valV_snoc (k j : κ) (y : V) : ∀ kvs : List (κ × V), valV kvs k = none → valV (kvs ++ [(k, y)]) j = if j = k then some y else valV kvs j
  | [], _ => by
    by_cases e : k = j
    · rw [if_pos e.symm]; exact valV_pos (p := (k, y)) e
    · rw [if_neg (fun z => e z.symm)]; exact valV_neg (p := (k, y)) e
  | p :: r, hn => by
    rw [List.cons_append]
    have hk : ¬ p.1 = k := fun z => by rw [valV_pos z] at hn; cases hn
    rw [valV_neg hk] at hn
    have ih := valV_snoc k j y r hn
    by_cases e : p.1 = j
    · rw [valV_pos e, valV_pos e, if_neg (fun z => hk (e.trans z))]
    · rw [valV_neg e, valV_neg e, ih]
theorem valV_put (kvs : List (κ × V)) (k j : κ) (y : V) : valV (putK kvs k y) j = if j = k then some y else valV kvs j := by
  unfold putK
  by_cases a : (kvs.any fun kv => decide (kv.1 = k)) = true
  · rw [if_pos a, valV_map]
    rw [valV_any] at a
    by_cases e : j = k
    · obtain ⟨x, hx⟩ := Option.isSome_iff_exists.mp a
      rw [if_pos e, e, hx, Option.map_some, if_pos rfl]
    · rw [if_neg e]
      cases valV kvs j with
      | none => rfl
      | some x => rw [Option.map_some, if_neg e]
  · rw [if_neg a]
    refine valV_snoc k j y kvs ?_
    rw [valV_any] at a
    cases q : valV kvs k with
    | none => rfl
    | some x => rw [q] at a; exact (a rfl).elim
theorem length_putK (kvs : List (κ × V)) (k : κ) (v : V) : (putK kvs k v).length ≤ kvs.length + 1 := by
  unfold putK
  split
  · rw [List.length_map]; omega
  · rw [List.length_append, List.length_cons, List.length_nil]; omega
theorem putK_new {kvs : List (κ × V)} {k : κ} (v : V) (h : valV kvs k = none) : putK kvs k v = kvs ++ [(k, v)] := by
  unfold putK
  rw [valV_any, h]
  exact if_neg (by decide)
theorem RelO.isSome_eq {o : Option V} {u : Option Value} (r : RelO o u) : o.isSome = u.isSome := by
  cases o with
  | none => cases u with
    | none => rfl
    | some _ => exact (show False from r).elim
  | some _ => cases u with
    | none => exact (show False from r).elim
    | some _ => rfl
theorem RelO.getD {o : Option V} {u : Option Value} {d : V} {d' : Value} (r : RelO o u) (rd : RelV d d') : RelV (o.getD d) (u.getD d') := by
  cases o with
  | none => cases u with
    | none => exact rd
    | some _ => exact (show False from r).elim
  | some _ => cases u with
    | none => exact (show False from r).elim
    | some _ => exact r
theorem KV.val {kvs : List (κ × V)} {vs : List (κ × Value)} (r : KV kvs vs) (k : κ) : RelO (valV kvs k) (valueAt vs k) := by
  unfold KV at r
  induction r with
  | nil => exact True.intro
  | @cons p q ps qs h t ih =>
    obtain ⟨h1, h2⟩ := h
    by_cases e : p.1 = k
    · have e' : q.1 = k := h1.symm.trans e
      have b : valueAt (q :: qs) k = some q.2 := by simp [valueAt, List.find?_cons, e']
      rw [valV_pos e, b]; exact h2
    · have e' : ¬ q.1 = k := fun z => e (h1.trans z)
      have b : valueAt (q :: qs) k = valueAt qs k := by simp [valueAt, List.find?_cons, e']
      rw [valV_neg e, b]; exact ih
theorem KV.any {kvs : List (κ × V)} {vs : List (κ × Value)} (r : KV kvs vs) (k : κ) : (kvs.any fun kv => decide (kv.1 = k)) = vs.any fun kv => decide (kv.1 = k) := by
  unfold KV at r
  induction r with
  | nil => rfl
  | cons h t ih => rw [List.any_cons, List.any_cons, ih, h.1]
theorem KV.repl {kvs : List (κ × V)} {vs : List (κ × Value)} (r : KV kvs vs) (k : κ) {y : V} {u : Value} (ry : RelV y u) :
    KV (kvs.map fun kv => if kv.1 = k then (kv.1, y) else kv) (vs.map fun kv => if kv.1 = k then (kv.1, u) else kv) := by
  unfold KV at r ⊢
  induction r with
  | nil => exact .nil
  | @cons p q ps qs h t ih =>
    rw [List.map_cons, List.map_cons]
    refine .cons ?_ ih
    obtain ⟨h1, h2⟩ := h
    by_cases e : p.1 = k
    · rw [if_pos e, if_pos (h1.symm.trans e)]; exact ⟨h1, ry⟩
    · rw [if_neg e, if_neg (fun z => e (h1.trans z))]; exact ⟨h1, h2⟩
theorem KV.put {kvs : List (κ × V)} {vs : List (κ × Value)} (r : KV kvs vs) (k : κ) {y : V} {u : Value} (ry : RelV y u) : KV (putK kvs k y) (stored vs k u) := by
  unfold putK stored
  rw [r.any k]
  by_cases e : (vs.any fun kv => decide (kv.1 = k)) = true
  · rw [if_pos e, if_pos e]; exact r.repl k ry
  · rw [if_neg e, if_neg e]; exact Paired.snoc r ⟨rfl, ry⟩
theorem KV.drop {kvs : List (κ × V)} {vs : List (κ × Value)} (r : KV kvs vs) (k : κ) : KV (dropK kvs k) (without vs k) := by
  unfold KV at r ⊢
  unfold dropK without
  induction r with
  | nil => exact .nil
  | @cons p q ps qs h t ih =>
    obtain ⟨h1, h2⟩ := h
    rw [List.filter_cons, List.filter_cons]
    by_cases e : p.1 = k
    · have a : ¬ decide (p.1 ≠ k) = true := by simp [e]
      have b : ¬ decide (q.1 ≠ k) = true := by simp [h1.symm.trans e]
      rw [if_neg a, if_neg b]; exact ih
    · have e' : ¬ q.1 = k := fun z => e (h1.trans z)
      have a : decide (p.1 ≠ k) = true := by simp [e]
      have b : decide (q.1 ≠ k) = true := by simp [e']
      rw [if_pos a, if_pos b]; exact .cons ⟨h1, h2⟩ ih
theorem KV.keys {kvs : List (κ × V)} {vs : List (κ × Value)} (r : KV kvs vs) : kvs.map (·.1) = vs.map (·.1) := by
  unfold KV at r
  induction r with
  | nil => rfl
  | cons h t ih => rw [List.map_cons, List.map_cons, ih, h.1]
theorem KV.length {kvs : List (κ × V)} {vs : List (κ × Value)} (r : KV kvs vs) : kvs.length = vs.length := Paired.length r
end
theorem kV_is {P : Program} {w : World} {k : Key} {u : Value} (r : RelV (kV k) u) : (mixKind P w).is k u = true := by
  cases k with
  | inl i => obtain ⟨t, e⟩ := (show ∃ t, u = Value.int i t from r); subst e; exact mixKind_int P w i t
  | inr x => obtain ⟨t, e⟩ := (show ∃ t, u = Value.str x t from r); subst e; exact mixKind_str P w x t
theorem items_are {P : Program} {w : World} : ∀ {ks : List Key} {us : List Value}, Vals (ks.map kV) us → ItemsAre (mixKind P w) ks us
  | [], _, r => by rw [List.map_nil] at r; cases r; exact .nil
  | k :: ks, _, r => by
    rw [List.map_cons] at r
    cases r with
    | cons h t => exact .cons (kV_is h) (items_are t)
abbrev KT (H : Hp) : List (List Key × V) → List (List Key × Addr × Value) → Prop := Paired fun p q => p.1 = q.1 ∧ H q.2.1 = some (.tup (p.1.map kV)) ∧ RelV p.2 q.2.2
theorem KT.val {H : Hp} {kvs : List (List Key × V)} {xs : List (List Key × Addr × Value)} (r : KT H kvs xs) (k : List Key) : RelO (valV kvs k) ((atKey xs k).map (·.2)) := by
  induction r with
  | nil => exact True.intro
  | @cons p q ps qs h t ih =>
    obtain ⟨h1, _, h2⟩ := h
    by_cases e : p.1 = k
    · have e' : q.1 = k := h1.symm.trans e
      have b : atKey (q :: qs) k = some q.2 := by simp [atKey, List.find?_cons, e']
      rw [valV_pos e, b]; exact h2
    · have e' : ¬ q.1 = k := fun z => e (h1.trans z)
      have b : atKey (q :: qs) k = atKey qs k := by simp [atKey, List.find?_cons, e']
      rw [valV_neg e, b]; exact ih
theorem KT.repl {H : Hp} {kvs : List (List Key × V)} {xs : List (List Key × Addr × Value)} (r : KT H kvs xs) (k : List Key) {y : V} {u : Value} (ry : RelV y u) :
    KT H (kvs.map fun kv => if kv.1 = k then (kv.1, y) else kv) (xs.map (putAt k u)) := by
  induction r with
  | nil => exact .nil
  | @cons p q ps qs h t ih =>
    rw [List.map_cons, List.map_cons]
    refine .cons ?_ ih
    obtain ⟨h1, h2, h3⟩ := h
    unfold putAt
    by_cases e : p.1 = k
    · rw [if_pos e, if_pos (h1.symm.trans e)]; exact ⟨h1, h2, ry⟩
    · rw [if_neg e, if_neg (fun z => e (h1.trans z))]; exact ⟨h1, h2, h3⟩
theorem KT.put {H : Hp} {kvs : List (List Key × V)} {xs : List (List Key × Addr × Value)} (r : KT H kvs xs) (k : List Key) {b : Addr} {y : V} {u : Value} (hb : H b = some (.tup (k.map kV))) (ry : RelV y u) :
    KT H (putK kvs k y) (storedH xs k b u) := by
  have e : (kvs.any fun kv => decide (kv.1 = k)) = (atKey xs k).isSome := by
    rw [valV_any, (r.val k).isSome_eq, Option.isSome_map]
  unfold putK storedH
  rw [e]
  by_cases q : (atKey xs k).isSome = true
  · rw [if_pos q, if_pos q]; exact r.repl k ry
  · rw [if_neg q, if_neg q]; exact Paired.snoc r ⟨rfl, hb, ry⟩
theorem KT.keeps {H H' : Hp} {kvs : List (List Key × V)} {xs : List (List Key × Addr × Value)} (r : KT H kvs xs) (ht : ∀ b ys, H b = some (.tup ys) → H' b = some (.tup ys)) : KT H' kvs xs :=
  Paired.mapP r fun _ _ z => ⟨z.1, ht _ _ z.2.1, z.2.2⟩
section
variable {P : Program} {w : World} {H : Hp} {h : Heap} {a : Addr}
theorem rd_of {u : HO} (ok : HOk P w H h) (e : Rd H a u) : ObjOk P w H h a u := e.ok ok
theorem dk_rd {kvs : List (Key × V)} (ok : HOk P w H h) (e : Rd H a (.dK kvs)) : kvs.length ≤ sizeLine ∧ (a == sysModules) = false ∧ ∃ vs, KV kvs vs ∧ h.DictOf (mixKind P w) a vs :=
  show ObjOk P w H h a (.dK kvs) from rd_of ok e
theorem dk_of {kvs : List (Key × V)} (ok : HOk P w H h) (e : H a = some (.dK kvs)) : kvs.length ≤ sizeLine ∧ (a == sysModules) = false ∧ ∃ vs, KV kvs vs ∧ h.DictOf (mixKind P w) a vs := dk_rd ok (.inl e)
theorem key_of {ks : List Key} (ok : HOk P w H h) (e : H a = some (.tup (ks.map kV))) : (tupleKind (mixKind P w)).is h ks a := by
  obtain ⟨_, its, r, o, h1, h2, n, h3⟩ := (show ObjOk P w H h a (.tup (ks.map kV)) from ok a _ e)
  exact ⟨o, its.toArray, n, h1, h2, h3, by simpa using items_are r⟩
theorem dt_rd {kvs : List (List Key × V)} (ok : HOk P w H h) (e : Rd H a (.dT kvs)) : kvs.length ≤ sizeLine ∧ (a == sysModules) = false ∧
    ∃ xs, KT H kvs xs ∧ h.DictOfH (tupleKind (mixKind P w)) a xs := by
  obtain ⟨z, y, xs, r, o, es, ep, h1, h2, h3, h4, h5⟩ := (show ObjOk P w H h a (.dT kvs) from rd_of ok e)
  refine ⟨z, y, xs, r, o, es, ep, h1, h2, h3, h4, fun x hx => ?_, h5⟩
  have all : ∀ {l : List (List Key × V)} {m : List (List Key × Addr × Value)}, KT H l m → ∀ x ∈ m, (tupleKind (mixKind P w)).is h x.1 x.2.1 := by
    intro l m q
    induction q with
    | nil => intro x hx; exact nomatch hx
    | @cons p q ps qs hq t ih =>
      intro x hx
      rcases List.mem_cons.mp hx with e | hx
      · subst e
        exact key_of ok (by rw [← hq.1]; exact hq.2.1)
      · exact ih x hx
  exact all r x hx
theorem dt_of {kvs : List (List Key × V)} (ok : HOk P w H h) (e : H a = some (.dT kvs)) : kvs.length ≤ sizeLine ∧ (a == sysModules) = false ∧
    ∃ xs, KT H kvs xs ∧ h.DictOfH (tupleKind (mixKind P w)) a xs := dt_rd ok (.inl e)
end
def DGet (H : Hp) (a : Addr) (y : V) (r : Option V) : Prop :=
  (∃ kvs k, Rd H a (.dK kvs) ∧ y = kV k ∧ r = valV kvs k) ∨ ∃ kvs k b, Rd H a (.dT kvs) ∧ y = .ref b ∧ H b = some (.tup (k.map kV)) ∧ r = valV kvs k
def DPut (H : Hp) (a : Addr) (y v : V) (H' : Hp) : Prop :=
  (∃ kvs k, H a = some (.dK kvs) ∧ y = kV k ∧ kvs.length < sizeLine ∧ H' = upd H a (.dK (putK kvs k v))) ∨
  ∃ kvs k b, H a = some (.dT kvs) ∧ y = .ref b ∧ H b = some (.tup (k.map kV)) ∧ kvs.length < sizeLine ∧ H' = upd H a (.dT (putK kvs k v))
theorem DGet.k {H : Hp} {a : Addr} {kvs : List (Key × V)} {k : Key} (e : H a = some (.dK kvs)) : DGet H a (kV k) (valV kvs k) := .inl ⟨kvs, k, .inl e, rfl, rfl⟩
theorem DGet.t {H : Hp} {a b : Addr} {kvs : List (List Key × V)} {k : List Key} (e : H a = some (.dT kvs)) (eb : H b = some (.tup (k.map kV))) : DGet H a (.ref b) (valV kvs k) := .inr ⟨kvs, k, b, .inl e, rfl, eb, rfl⟩
theorem DPut.k {H : Hp} {a : Addr} {kvs : List (Key × V)} {k : Key} {v : V} (e : H a = some (.dK kvs)) (hl : kvs.length < sizeLine) : DPut H a (kV k) v (upd H a (.dK (putK kvs k v))) := .inl ⟨kvs, k, e, rfl, hl, rfl⟩
theorem DPut.t {H : Hp} {a b : Addr} {kvs : List (List Key × V)} {k : List Key} {v : V} (e : H a = some (.dT kvs)) (eb : H b = some (.tup (k.map kV))) (hl : kvs.length < sizeLine) :
    DPut H a (.ref b) v (upd H a (.dT (putK kvs k v))) := .inr ⟨kvs, k, b, e, rfl, eb, hl, rfl⟩
section
variable {X : Cx} {pins : List (Addr × Obj)} {σ : St} {H : Hp} {s : Shared} {a : Addr} {y v : V} {u r : Value} {o : Option V} {A : Around} {E : Value → Shared → Prop}
theorem Inv.big (I : Inv X pins σ H s) : sysModules < s.heap.objs.size := by
  have h : mainGlobals < s.heap.objs.size := (I.mod.glob.keeps I.bk).lt
  exact Nat.lt_trans (by decide) h
theorem d_getItem {Q : Value → Shared → Prop} (hu : A.units + 1 < cLine) (I : Inv X pins σ H s) (g : DGet H a y (some v)) (ry : RelV y u) (h : ∀ w' s', Inv X pins σ H s' → RelV v w' → Q w' s') :
    wpAny (model X.prog X.w) A (getItem (.ref a) u) Q E s := by
  rcases g with ⟨kvs, k, e, ey, l⟩ | ⟨kvs, k, b, e, ey, eb, l⟩
  · subst ey
    obtain ⟨z, hd, vs, rel, dd⟩ := dk_rd I.hok e
    obtain ⟨w', hw, rw'⟩ := RelO.some_of (v := v) (o := valueAt vs k) (by rw [l]; exact rel.val k)
    exact wpAny_getItem_of (kV_is ry) dd.mapOf hw (h w' _ (I.tok _) rw')
  · subst ey
    cases (show u = Value.ref b from ry)
    obtain ⟨z, hd, xs, rel, dd⟩ := dt_rd I.hok e
    obtain ⟨w', hw, rw'⟩ := RelO.some_of (v := v) (o := (atKey xs k).map (·.2)) (by rw [l]; exact rel.val k)
    obtain ⟨p, hp, hp2⟩ := Option.map_eq_some_iff.mp hw
    refine wpAny_getItem_heap (tupleKind_room_in1 hu) (key_of I.hok eb) dd hp ?_
    rw [hp2]
    exact h w' _ (I.tok _) rw'
theorem d_in {Q : Value → Shared → Prop} (hu : A.units + 1 < cLine) (I : Inv X pins σ H s) (g : DGet H a y o) (ry : RelV y u) (h : ∀ s', Inv X pins σ H s' → Q (.bool o.isSome) s') :
    wpAny (model X.prog X.w) A (compareOp .In u (.ref a)) Q E s := by
  rcases g with ⟨kvs, k, e, ey, l⟩ | ⟨kvs, k, b, e, ey, eb, l⟩
  · subst ey
    obtain ⟨z, hd, vs, rel, dd⟩ := dk_rd I.hok e
    refine wpAny_in_of (kV_is ry) hd dd.mapOf ?_
    rw [← (rel.val k).isSome_eq, ← l]
    exact h _ (I.tok _)
  · subst ey
    cases (show u = Value.ref b from ry)
    obtain ⟨z, hd, xs, rel, dd⟩ := dt_rd I.hok e
    refine wpAny_in_heap (tupleKind_room_in1 hu) (key_of I.hok eb) hd dd ?_
    have q := (rel.val k).isSome_eq
    rw [Option.isSome_map] at q
    rw [← q, ← l]
    exact h _ (I.tok _)
theorem d_write {h' : Heap} {t' : Nat} {ob : HO} (I : Inv X pins σ H s) (mu : Mut (H a)) (hs : Heap.SameBut a s.heap h') (he : ∃ q, h'.get? a = some q) (new : ObjOk X.prog X.w (upd H a ob) h' a ob) :
    Inv X pins σ (upd H a ob) { s with heap := h', toks := t' } :=
  I.write (x := a) (e := a) mu (.inl rfl) (fun b q hb z => (hs.2 b hb).trans z) he new
theorem dk_new {P : Program} {w : World} {H' : Hp} {h' : Heap} {kvs : List (Key × V)} {vs : List (Key × Value)} (z : kvs.length ≤ sizeLine) (hd : (a == sysModules) = false) (rel : KV kvs vs) (dd : h'.DictOf (mixKind P w) a vs) :
    ObjOk P w H' h' a (.dK kvs) := ⟨z, hd, vs, rel, dd⟩
theorem d_setItem {H' : Hp} {Q : Unit → Shared → Prop} (hu : A.units + 1 < cLine) (I : Inv X pins σ H s) (g : DPut H a y v H') (ry : RelV y u) (rv : RelV v r) (h : ∀ s', Inv X pins σ H' s' → Q () s') :
    wpAny (model X.prog X.w) A (setItem (.ref a) u r) Q E s := by
  rcases g with ⟨kvs, k, e, ey, l, eH⟩ | ⟨kvs, k, b, e, ey, eb, l, eH⟩
  · subst ey eH
    obtain ⟨z, hd, vs, rel, dd⟩ := dk_of I.hok e
    have hz : vs.length ≤ sizeLine := by rw [← rel.length]; exact z
    have hl : (putK kvs k v).length ≤ sizeLine := by have := length_putK kvs k v; omega
    refine wpAny_setItem_pairs (hsz := hz) (kV_is ry) dd fun h' dd' hs => h _ ?_
    have he : ∃ q, h'.get? a = some q := let ⟨q, _, _, hq, _⟩ := dd'; ⟨q, hq⟩
    exact d_write I (by rw [e]; exact True.intro) hs he (dk_new hl hd (rel.put k rv) dd')
  · subst ey eH
    cases (show u = Value.ref b from ry)
    obtain ⟨z, hd, xs, rel, dd⟩ := dt_of I.hok e
    have hz : xs.length ≤ sizeLine := by rw [← Paired.length rel]; exact z
    have hl : (putK kvs k v).length ≤ sizeLine := by have := length_putK kvs k v; omega
    refine wpAny_setItem_heap (hsz := hz) (tupleKind_room_in1 hu) (key_of I.hok eb) dd fun h' dd' hs => h _ ?_
    obtain ⟨q, es, ep, hq, h2, h3, h4, _, h5⟩ := dd'
    refine d_write I (by rw [e]; exact True.intro) hs ⟨q, hq⟩ ⟨hl, hd, _, (rel.put k eb rv).keeps fun c ys ec => ?_, q, es, ep, hq, h2, h3, h4, h5⟩
    rw [upd_ne (ne_of ec e (fun z => nomatch z))]
    exact ec
end
section
variable {X : Cx} {pins : List (Addr × Obj)} {σ : St} {H : Hp} {s : Shared} {a : Addr} {kvs : List (Key × V)} {k : Key} {u : Value} {A : Around} {E : Value → Shared → Prop}
theorem d_len {Q : Value → Shared → Prop} (I : Inv X pins σ H s) (e : Rd H a (.dK kvs)) (h : ∀ t s', Inv X pins σ H s' → Q (.int kvs.length t) s') : wpAny (model X.prog X.w) A (call (.builtin "len") [.ref a]) Q E s := by
  obtain ⟨z, hd, vs, rel, dd⟩ := dk_rd I.hok e
  refine call_len_dict hd dd (by rw [← rel.length]; rw [sizeLine_eq] at z; omega) ?_
  rw [← rel.length]
  exact h _ _ (I.tok _)
end
def NoSl (i : Expr) : Prop := ∀ ov iv, subscripted i false ov iv = operate [ov, iv] (getItem ov iv)
theorem subD_of {prog : Program} {w : World} {A : Around} {E : Value → Shared → Prop} {s : Shared} {env : Env} {value slice : Expr} {pos : Pos} {T id : String} {Q : Value → Shared → Prop}
    (hl : typeLookup (.type T) "__getitem__" = pure (some (.builtin id))) (hs : NoSl slice)
    (h : wpAny (model prog w) A (eval value env) (fun o s₁ => wpAny (model prog w) A (eval slice env) (fun i s₂ => s₂.TypeIs o T ∧ wpAny (model prog w) A (getItem o i) Q E s₂) E s₁) E s) :
    wpAny (model prog w) A (eval (.Subscript value slice pos) env) Q E s := by
  refine Subscript_ (wpAny_mono h (fun o s₁ h₁ => wpAny_mono h₁ (fun i s₂ h₂ => ?_) fun _ _ x => x) fun _ _ x => x)
  obtain ⟨hT, h₂⟩ := h₂
  unfold subscriptTail
  refine wpAny_bind ?_
  rw [getitemInPython_of_ne hT.not_modules]
  refine wpAny_bind (wpAny_specialOf hT hl ?_)
  have fin : wpAny (model prog w) A (subscripted slice false o i) (fun r s₃ => wpAny (model prog w) A (letTemporaryGo value o r >>= fun _ => pure r) Q E s₃) E s₂ := by
    rw [hs o i]
    exact wpAny_operating (wpAny_mono h₂ (fun r s₃ h₃ => wpAny_bind (wpAny_letTemporaryGo (wpAny_pure h₃))) fun _ _ x => x)
  first
    | exact wpAny_pure (wpAny_bind fin)
    | exact wpAny_bind (wpAny_pure (wpAny_bind fin))
    | exact wpAny_bind fin
theorem dict_typeIs {X : Cx} {pins : List (Addr × Obj)} {σ : St} {H : Hp} {s : Shared} {a : Addr} {y : V} {o : Option V} (I : Inv X pins σ H s) (g : DGet H a y o) : s.TypeIs (.ref a) "dict" := by
  rcases g with ⟨kvs, k, e, _, _⟩ | ⟨kvs, k, b, e, _, _, _⟩
  · obtain ⟨_, _, vs, _, dd⟩ := dk_rd I.hok e
    exact dd.typeIs
  · obtain ⟨_, _, xs, _, dd⟩ := dt_rd I.hok e
    exact dd.typeIs
def tDGet (td ty : TE) : TE := fun σ H Q => td σ H fun x H1 => ty σ H1 fun y H2 => ∃ a v, x = .ref a ∧ DGet H2 a y (some v) ∧ Q v H2
def tDIn (ty td : TE) : TE := fun σ H Q => ty σ H fun y H1 => td σ H1 fun x H2 => ∃ a o, x = .ref a ∧ DGet H2 a y o ∧ Q (.bl o.isSome) H2
def sDPut (td ty tv : TE) : TS := fun D σ H => tv σ H fun v H1 => td σ H1 fun x H2 => ty σ H2 fun y H3 => ∃ a H4, x = .ref a ∧ DPut H3 a y v H4 ∧ D.nx σ H4
section
variable {X : Cx} {o i e value : Expr} {pos pos' tpos : Pos} {td ty tv : TE}
theorem pe_dget (hu : X.A.units + 1 < cLine) (ho : PE X o td) (hi : PE X i ty) (hs : NoSl i) : PE X (.Subscript o i pos) (tDGet td ty) := by
  intro pins s σ H Q I h
  refine subD_of PySem.F.slot_dict_getitem.lookup hs (thn (ho pins s σ H _ I h) fun u s1 ⟨x, H1, I1, rx, q1⟩ => thn (hi pins s1 σ H1 _ I1 q1) fun iv s2 ⟨y, H2, I2, ry, a, v, ex, g, q2⟩ => ?_)
  subst ex
  obtain rfl : u = Value.ref a := rx
  exact ⟨dict_typeIs I2 g, d_getItem hu I2 g ry fun w' s3 I3 rw' => ⟨v, H2, I3, rw', q2⟩⟩
theorem pc_din (hu : X.A.units + 1 < cLine) (hi : PE X i ty) (ho : PE X o td) : PC X .In i o (tDIn ty td) := by
  intro pins s σ H Q I h
  refine thn (hi pins s σ H _ I h) fun iv s1 ⟨y, H1, I1, ry, q1⟩ => thn (ho pins s1 σ H1 _ I1 q1) fun u s2 ⟨x, H2, I2, rx, a, ov, ex, g, q2⟩ => ?_
  subst ex
  obtain rfl : u = Value.ref a := rx
  exact d_in hu I2 g ry fun s3 I3 => ⟨.bl ov.isSome, H2, I3, rfl, q2⟩
theorem ps_dput (hu : X.A.units + 1 < cLine) (ho : PE X o td) (hi : PE X i ty) (hv : PE X value tv) (hs : swapsWith value (some (.Subscript o i pos')) pos.line X.env = pure false) :
    PS X (.Assign [.Subscript o i pos'] value pos) (sDPut td ty tv) := by
  intro pins s σ H D I h
  refine wpAny_Assign_Subscript (thn (hv pins s σ H _ I h) fun r s1 ⟨v, H1, I1, rv, q1⟩ => thn (ho pins s1 σ H1 _ I1 q1) fun u s2 ⟨x, H2, I2, rx, q2⟩ => thn (hi pins s2 σ H2 _ I2 q2) fun iv s3 ⟨y, H3, I3, ry, a, H4, ex, g, q3⟩ => ?_) hs
  subst ex
  obtain rfl : u = Value.ref a := rx
  exact d_setItem hu I3 g ry rv fun s4 I4 => ⟨σ, H4, I4, q3⟩
end
theorem dk_empty {P : Program} {w : World} {H : Hp} (h : Heap) (hb : sysModules < h.objs.size) : ObjOk P w H (h.push { cls := .type "dict", data := .dict #[] }) h.objs.size (.dK []) :=
  ⟨Nat.zero_le _, beq_eq_false_iff_ne.mpr (Ne.symm (Nat.ne_of_lt hb)), [], .nil, Heap.DictOf.new h⟩
theorem dt_empty {P : Program} {w : World} {H : Hp} (h : Heap) (hb : sysModules < h.objs.size) : ObjOk P w H (h.push { cls := .type "dict", data := .dict #[] }) h.objs.size (.dT []) :=
  ⟨Nat.zero_le _, beq_eq_false_iff_ne.mpr (Ne.symm (Nat.ne_of_lt hb)), [], .nil, _, #[], 0, Heap.get?_push_size _ rfl, ⟨rfl, rfl, rfl⟩, rfl, rfl, List.nodup_nil⟩
def tDNewK : TE := fun _ H Q => ∀ p, H p = none → Q (.ref p) (upd H p (.dK []))
section
variable {X : Cx} {pos : Pos}
theorem pe_dnewK : PE X (.Dict [] [] pos) tDNewK := fun pins s σ H Q I h =>
  wpAny_Dict_empty ⟨.ref s.heap.objs.size, _, I.laid (a := s.heap.objs.size) (o := .dK []) (t' := s.toks) (fun _ _ q => Heap.get?_push_of_some _ q) (Nat.le_refl _) (dk_empty s.heap I.big), rfl, h _ (I.hok.fresh (Nat.le_refl _))⟩
end
structure M2 (X : Cx) (o : Expr) (m : Str) (apos : Pos) (e f : Expr) (cpos : Pos) : Prop where
  base : attributeBase o m X.env (eval o X.env) = eval o X.env
  few : ((backTo cpos (starEach [e, f] X.env)).all (fun x => !x.1) && (backToKw cpos (keywordEach [] X.env)).all (fun x => x.1.isSome)
    && decide (([e, f] : List Expr).length + ([] : List Keyword).length + (if ([] : List Keyword).isEmpty then 0 else 1) < 30)) = true
  line : (apos.endLine == cpos.line) = true
  trees : backTo cpos (starEach [e, f] X.env) = [(false, eval e X.env), (false, eval f X.env)]
def IsD (H : Hp) (a : Addr) : Prop := (∃ kvs, Rd H a (.dK kvs)) ∨ ∃ kvs, Rd H a (.dT kvs)
theorem isD_at {X : Cx} {pins : List (Addr × Obj)} {σ : St} {H : Hp} {s : Shared} {a : Addr} (I : Inv X pins σ H s) (d : IsD H a) :
    s.TypeIs (.ref a) "dict" ∧ (∀ b, Value.ref a = .ref b → ∃ ob, s.heap.get? b = some ob ∧ ob.dict = none) ∧ (a == sysModules) = false := by
  rcases d with ⟨kvs, e⟩ | ⟨kvs, e⟩
  · obtain ⟨_, hd, vs, _, dd⟩ := dk_rd I.hok e
    refine ⟨dd.typeIs, fun b q => ?_, hd⟩
    cases q
    obtain ⟨ob, _, _, h1, h2, _⟩ := dd
    exact ⟨ob, h1, h2.2.1⟩
  · obtain ⟨_, hd, xs, _, dd⟩ := dt_rd I.hok e
    refine ⟨dd.typeIs, fun b q => ?_, hd⟩
    cases q
    obtain ⟨ob, _, _, h1, h2, _⟩ := dd
    exact ⟨ob, h1, h2.2.1⟩
section
variable {X : Cx} {pins : List (Addr × Obj)} {σ : St} {H : Hp} {s : Shared} {a : Addr} {y d : V} {u r : Value} {o : Option V} {A : Around} {E : Value → Shared → Prop}
theorem d_get2 {Q : Value → Shared → Prop} (hu : A.units + 1 < cLine) (I : Inv X pins σ H s) (g : DGet H a y o) (ry : RelV y u) (rd : RelV d r) (h : ∀ w' s', Inv X pins σ H s' → RelV (o.getD d) w' → Q w' s') :
    wpAny (model X.prog X.w) A (call (.builtin "dict.get") [.ref a, u, r]) Q E s := by
  rcases g with ⟨kvs, k, e, ey, l⟩ | ⟨kvs, k, b, e, ey, eb, l⟩
  · subst ey
    obtain ⟨z, hd, vs, rel, dd⟩ := dk_rd I.hok e
    refine call_meetsIn PySem.F.slot_dict_get dd.typeIs PySem.F.entry_dict_get (PySem.F.args_dict_get_3 _ _ _) (meets_dict_get_default (mixKind X.prog X.w) a (kV_is ry) hd r) ⟨_, dd.mapOf, h _ _ (I.tok _) ?_⟩
    rw [l]
    exact (rel.val k).getD rd
  · subst ey
    cases (show u = Value.ref b from ry)
    obtain ⟨z, hd, xs, rel, dd⟩ := dt_rd I.hok e
    refine call_meetsIn PySem.F.slot_dict_get dd.typeIs PySem.F.entry_dict_get (PySem.F.args_dict_get_3 _ _ _) (meetsH_dict_get_default (tupleKind (mixKind X.prog X.w)) a b hd r) ⟨tupleKind_room_in1 hu, k, xs, key_of I.hok eb, dd, h _ _ (I.tok _) ?_⟩
    rw [l]
    exact (rel.val k).getD rd
end
def tDGet2 (td ty tx : TE) : TE := fun σ H Q => td σ H fun x H1 => ∃ a, x = .ref a ∧ IsD H1 a ∧ ty σ H1 fun y H2 => tx σ H2 fun z H3 => ∃ o, DGet H3 a y o ∧ Q (o.getD z) H3
section
variable {X : Cx} {o e f : Expr} {apos cpos : Pos} {td ty tx : TE}
theorem pe_dget2 (hu : X.A.units + 1 < cLine) (ho : PE X o td) (he : PE X e ty) (hf : PE X f tx) (m : M2 X o "get" apos e f cpos) : PE X (.Call (.Attribute o "get" apos) [e, f] [] cpos) (tDGet2 td ty tx) := by
  intro pins s σ H Q I h
  refine wpAny_Call_method m.base m.few m.line PySem.F.plainAttrs_dict PySem.F.slot_dict_get PySem.F.type_dict_get (thn (ho pins s σ H _ I h) fun u s1 ⟨x, H1, I1, rx, a, ex, d, q1⟩ => ?_)
  subst ex
  obtain rfl : u = Value.ref a := rx
  obtain ⟨t1, t2, _⟩ := isD_at I1 d
  refine ⟨t1, t2, ?_⟩
  rw [m.trees]
  refine Calls.callWith_builtin rfl (Calls.evalArgs_plain (Calls.spliced_cons (thn (he pins s1 σ H1 _ I1 q1) fun iv s2 ⟨y, H2, I2, ry, q2⟩ =>
    Calls.spliced_cons (thn (hf pins s2 σ H2 _ I2 q2) fun fv s3 ⟨z, H3, I3, rz, ov, g, q3⟩ => Calls.spliced_nil ?_))))
  exact d_get2 hu I3 g ry rz fun w' s4 I4 rw' => ⟨_, H3, I4, rw', q3⟩
end
section
variable {X : Cx} {pins : List (Addr × Obj)} {σ : St} {H : Hp} {s : Shared} {a : Addr} {kvs : List (Key × V)} {A : Around} {E : Value → Shared → Prop}
end
section
variable {X : Cx} {pins : List (Addr × Obj)} {σ : St} {H : Hp} {s : Shared} {a : Addr} {y : V} {u : Value} {A : Around} {E : Value → Shared → Prop}
end
end L2
namespace L2
open PySem PySem.Spec PyProof.Rows
section
variable {prog : Program} {w : World} {A : Around} {E : Value → Shared → Prop}
end
section
variable {X : Cx}
end
end L2
namespace L2
open PySem PySem.Spec PyProof.Rows
section
variable {X : Cx} {pins : List (Addr × Obj)} {σ : St} {H : Hp} {s : Shared} {h' : Heap}
end
section
variable {X : Cx}
end
def RgC (i j c : Int) (n : Nat) : Prop := c ≠ 0 ∧ c.natAbs < 1073741824 ∧ Builtin.Range.small i j c = true ∧ Builtin.Range.rangeSize i j c = n
theorem RgC.neg {i j : Int} (ha : -(2 ^ 62) ≤ i) (ha' : i < 2 ^ 62) (hb : -(2 ^ 62) ≤ j) (hb' : j < 2 ^ 62) : RgC i j (-1) (i - j).toNat :=
  ⟨by decide, by decide, PySem.W.small_down ha ha' hb hb', PySem.W.rangeSize_downNat i j⟩
section
variable {X : Cx} {tg : Expr}
end
section
variable {X : Cx} {tg : Expr}
end
section
variable {prog : Program} {w : World} {A : Around} {E : Value → Shared → Prop} {s : Shared}
theorem iter_keys {d : Addr} {o : Obj} {es : Array DictEntry} {ep : Nat} {Q : Value → Shared → Prop} (hd : (d == sysModules) = false) (ho : s.heap.get? d = some o) (hc : o.ExactDict) (hdat : o.data = .dict es ep)
    (hQ : Q (.ref s.heap.objs.size) { s with heap := s.heap.push { cls := .type "dict_keyiterator", data := .fields #[.ref d, .int 0 0, .int es.size 0, .int ep 0] } }) :
    wpAny (model prog w) A (pyIter (.ref d)) Q E s := by
  have hT : s.TypeIs (.ref d) "dict" := ⟨o, ho, hc.1⟩
  refine wpAny_pyIter_slot hT F.slot_dict_iter (wpAny_call_entry F.slot_dict_iter hT F.entry_dict_iter ?_ (F.args_dict_iter_1 _))
  unfold Builtin.«dict.__iter__»
  refine wpAny_bind ?_
  unfold Builtin.Dict.dictSlotNone
  refine wpAny_bind (wpAny_notOrdered_dict hT ?_)
  show wpAny _ _ (pure (Value.ref d)) _ _ s
  refine wpAny_pure ?_
  show wpAny _ _ (Builtin.Dict.showsAll d >>= _) _ _ s
  unfold Builtin.Dict.showsAll
  rw [if_neg (by rw [hd]; exact Bool.false_ne_true)]
  refine wpAny_bind (wpAny_pure ?_)
  refine wpAny_bind (wpAny_dictEntries ho hdat ?_)
  refine wpAny_bind (wpAny_dictEpoch ho hdat ?_)
  refine wpAny_bind (wpAny_newObj_type (wpAny_pure ⟨_, rfl, "dict_keyiterator", _, ⟨_, Heap.get?_push_size _ rfl, rfl⟩, F.slot_dict_keyiterator_next.lookup, ?_⟩))
  simpa [rawInt] using hQ
theorem next_key_item {it d : Addr} {i n ep : Nat} {od : Obj} {es : Array DictEntry} {en : DictEntry} {Q : Option Value → Shared → Prop} (hit : s.heap.IsKeyIter it d i n ep) (hod : s.heap.get? d = some od) (hdd : od.data = .dict es ep)
    (hsz : es.size = n) (hx : es[i]? = some en) (hQ : ∀ h', h'.IsKeyIter it d (i + 1) n ep → Heap.SameBut it s.heap h' → Q (some en.key) { s with heap := h' }) : wpAny (model prog w) A (pyNext (.ref it)) Q E s := by
  obtain ⟨o, ho, hc, hd⟩ := id hit
  unfold pyNext
  refine wpAny_bind (wpAny_attempt (wpAny_callSpecial?_slot (name := Str.ofString "__next__") hit.typeIs F.slot_dict_keyiterator_next
    (wpAny_call_entry F.slot_dict_keyiterator_next hit.typeIs F.entry_dict_keyiterator_next ?_ (F.args_dict_keyiterator_next_1 _))))
  refine wpAny_bind (wpAny_pure ?_)
  refine wpAny_bind ?_
  refine wpAny_bind ?_
  first | refine wpAny_bind (wpAny_typeNameOfWhole_keyiter hit.typeIs (wpAny_pure ?_)) | refine wpAny_bind (wpAny_typeNameOf_keyiter hit.typeIs (wpAny_pure ?_))
  refine wpAny_bind (wpAny_fieldsOf ho hd ?_)
  have hown : Builtin.Dict_items.ownsTuple "dict_keyiterator" = false := by decide
  simp only [hown, Bool.false_eq_true, if_false]
  show wpAny _ _ (if (Value.ref d == Value.none) = true then _ else _) _ _ s
  rw [if_neg (show ¬ ((Value.ref d == Value.none) = true) from Bool.false_ne_true)]
  refine wpAny_bind (wpAny_pure ?_)
  refine wpAny_bind (wpAny_dictEntries hod hdd ?_)
  rw [if_neg (by rw [hsz]; simp)]
  refine wpAny_bind (wpAny_pure ?_)
  refine wpAny_bind (wpAny_dictEpoch hod hdd ?_)
  rw [if_neg (by simp)]
  refine wpAny_pure ?_
  obtain ⟨hlt', hen⟩ := Array.getElem?_eq_some_iff.mp hx
  simp only [show ¬ ((i : Int) < 0) from by omega, if_false, Int.toNat_natCast, Array.getElem?_eq_getElem hlt']
  refine wpAny_bind ?_
  first | refine wpAny_bind (wpAny_typeNameOfWhole_keyiter hit.typeIs (wpAny_pure ?_)) | refine wpAny_bind (wpAny_typeNameOf_keyiter hit.typeIs (wpAny_pure ?_))
  refine wpAny_bind (wpAny_isOneOf_keyiter hit.typeIs ?_)
  show wpAny _ _ (setField (.ref it) 1 (rawInt ((i : Int) + 1)) >>= _) _ _ s
  refine wpAny_bind (wpAny_setField ho hd (by simp) ?_)
  have hit' : (s.heap.update it (Obj.mapFields (·.setIfInBounds 1 (rawInt ((i : Int) + 1))))).IsKeyIter it d (i + 1) n ep :=
    ⟨_, Heap.get?_update_self _ ho (Obj.isFreed_of_fields (Obj.data_mapFields hd _)), (Obj.cls_mapFields ..).trans hc, by rw [Obj.data_mapFields hd]; simp [rawInt]⟩
  refine wpAny_bind (wpAny_holding ?_)
  refine wpAny_bind (wpAny_isOneOf_keyiter (s := { s with heap := s.heap.update it (Obj.mapFields (·.setIfInBounds 1 (rawInt ((i : Int) + 1)))) }) hit'.typeIs ?_)
  show wpAny _ _ (pure es[i].key) _ _ _
  rw [hen]
  exact wpAny_pure (wpAny_pure ⟨_, rfl, wpAny_pure (hQ _ hit' (Heap.SameBut.update ..))⟩)
theorem next_key_end {it d : Addr} {i n ep : Nat} {od : Obj} {es : Array DictEntry} {Q : Option Value → Shared → Prop} (hh : A.handled = none) (hit : s.heap.IsKeyIter it d i n ep) (hod : s.heap.get? d = some od) (hdd : od.data = .dict es ep)
    (hsz : es.size = n) (hge : n ≤ i) (hQ : ∀ h', Heap.ExtBut it s.heap h' → Q none { s with heap := h' }) : wpAny (model prog w) A (pyNext (.ref it)) Q E s := by
  obtain ⟨o, ho, hc, hd⟩ := id hit
  unfold pyNext
  refine wpAny_bind (wpAny_attempt (wpAny_callSpecial?_slot (name := Str.ofString "__next__") hit.typeIs F.slot_dict_keyiterator_next
    (wpAny_call_entry F.slot_dict_keyiterator_next hit.typeIs F.entry_dict_keyiterator_next ?_ (F.args_dict_keyiterator_next_1 _))))
  refine wpAny_bind (wpAny_pure ?_)
  refine wpAny_bind ?_
  refine wpAny_bind ?_
  first | refine wpAny_bind (wpAny_typeNameOfWhole_keyiter hit.typeIs (wpAny_pure ?_)) | refine wpAny_bind (wpAny_typeNameOf_keyiter hit.typeIs (wpAny_pure ?_))
  refine wpAny_bind (wpAny_fieldsOf ho hd ?_)
  have hown : Builtin.Dict_items.ownsTuple "dict_keyiterator" = false := by decide
  simp only [hown, Bool.false_eq_true, if_false]
  show wpAny _ _ (if (Value.ref d == Value.none) = true then _ else _) _ _ s
  rw [if_neg (show ¬ ((Value.ref d == Value.none) = true) from Bool.false_ne_true)]
  refine wpAny_bind (wpAny_pure ?_)
  refine wpAny_bind (wpAny_dictEntries hod hdd ?_)
  rw [if_neg (by rw [hsz]; simp)]
  refine wpAny_bind (wpAny_pure ?_)
  refine wpAny_bind (wpAny_dictEpoch hod hdd ?_)
  rw [if_neg (by simp)]
  refine wpAny_pure ?_
  have hge' : es.size ≤ i := by rw [hsz]; exact hge
  simp only [show ¬ ((i : Int) < 0) from by omega, if_false, Int.toNat_natCast, Array.getElem?_eq_none hge']
  refine wpAny_bind ?_
  first | refine wpAny_bind (wpAny_typeNameOfWhole_keyiter hit.typeIs (wpAny_pure ?_)) | refine wpAny_bind (wpAny_typeNameOf_keyiter hit.typeIs (wpAny_pure ?_))
  show wpAny _ _ (setField (.ref it) 0 .none >>= _) _ _ s
  refine wpAny_bind (wpAny_setField ho hd (by simp) ?_)
  show wpAny _ _ (newExc (.type "StopIteration") [] >>= _) _ _ _
  refine wpAny_bind ?_
  simp only [newExc, newTuple]
  refine wpAny_bind (wpAny_newObj_type ?_ (by size_fits))
  refine wpAny_bind (m := firstArgMember _ _) (wpAny_of_eq (a := Value.none) (by first | rfl | (simp only [firstArgMember]; rfl)) ?_)
  refine wpAny_newObj_type ?_ (by size_fits)
  simp only [raiseNew]
  refine wpAny_bind (wpAny_handled ?_)
  rw [show A.in1.handled = none from hh]
  refine wpAny_bind (wpAny_pure (wpAny_throw ?_))
  refine wpAny_bind (wpAny_isInstance (T := "StopIteration") (b := true) ⟨_, Heap.get?_push_size _ rfl, rfl⟩ isSubtype_stop ?_)
  exact wpAny_pure (hQ _ (((Heap.SameBut.update ..).extBut.push _).push _))
end
theorem paired_get {α β : Type} {G : α → β → Prop} {l₁ : List α} {l₂ : List β} (h : Paired G l₁ l₂) : ∀ {i : Nat} {a : α}, l₁[i]? = some a → ∃ b, l₂[i]? = some b ∧ G a b := by
  induction h with
  | nil => intro i a e; simp at e
  | @cons a b l₁ l₂ r t ih =>
    intro i a' e
    cases i with
    | zero =>
      simp only [List.getElem?_cons_zero, Option.some.injEq] at e
      subst e
      exact ⟨b, rfl, r⟩
    | succ j =>
      simp only [List.getElem?_cons_succ] at e ⊢
      exact ih e
section
variable {X : Cx} {pins : List (Addr × Obj)} {σ : St} {H : Hp} {s : Shared} {d : Addr} {o : Obj}
end
section
variable {P : Program} {w : World} {K : PySem.W.Frag} {tg : Expr} {d : Addr} {o : Obj} {es : Array DictEntry} {ep : Nat}
end
section
variable {X : Cx} {tg e : Expr} {td : TE} {apos cpos : Pos}
end
end L2
section 
namespace Bits
open PySem PyProof.Rows
theorem nat_xor_add_and (m : Nat) : ∀ n : Nat, (m ^^^ n) + 2 * (m &&& n) = m + n := by
  induction m using Nat.strongRecOn with
  | _ m ih =>
    intro n
    by_cases h0 : m = 0
    · subst h0
      simp
    · have ih' := ih (m / 2) (by omega) (n / 2)
      rw [← Nat.xor_div_two, ← Nat.and_div_two] at ih'
      have o1 := @Nat.xor_mod_two_eq_one m n
      have a1 := @Nat.and_mod_two_eq_one m n
      omega
theorem bitXor_pp {x y : Int} (hx : 0 ≤ x) (hy : 0 ≤ y) : Builtin.bitXor x y = ((x.toNat ^^^ y.toNat : Nat) : Int) := by
  have e := nat_xor_add_and x.toNat y.toNat
  rw [bitXor_and, bitAnd_pp hx hy]
  omega
end Bits
end 
section 
namespace TL
open PySem PySem.Builtin PySem.Builtin.Str PySem.StrLaws
abbrev tl (x : Str) : List Nat := x.cps.toList
def pre (S l : List Nat) : Bool := l.take S.length == S
def spl (S : List Nat) : Nat → List Nat → List Nat → List (List Nat)
  | _, acc, [] => [acc]
  | 0, acc, c :: r => if pre S (c :: r) = true then acc :: spl S (S.length - 1) [] r else spl S 0 (acc ++ [c]) r
  | k + 1, acc, _ :: r => spl S k acc r
def par (S : List Nat) : List Nat → List Nat → Option (List Nat × List Nat)
  | _, [] => none
  | acc, c :: r => if pre S (c :: r) = true then some (acc, (c :: r).drop S.length) else par S (acc ++ [c]) r
end TL
end 
namespace L2
open PySem PySem.Spec PyProof.Rows
section
variable {X : Cx} {pins : List (Addr × Obj)} {σ : St} {H : Hp} {s : Shared} {Q : VK}
end
section
variable {X : Cx}
end
section
variable {X : Cx} {o e : Expr} {to te : TE}
def tM0 (r : V → List V → Hp → VK → Prop) (to : TE) : TE := fun σ H Q => to σ H fun x H1 => (∃ a, x = .str a) ∧ r x [] H1 Q
theorem pe_m0 {id : String} {name : Str} {apos pos : Pos} {r : V → List V → Hp → VK → Prop} (slot : Slot "str" name id) (ty : typeOf (.builtin id) = pure (.type "method_descriptor")) (rule : MtR X id r) (ho : PE X o to)
    (hbase : attributeBase o name X.env (eval o X.env) = eval o X.env := by rfl) (hline : (apos.endLine == pos.line) = true := by rfl) : PE X (.Call (.Attribute o name apos) [] [] pos) (tM0 r to) := by
  intro pins s σ H Q I h
  refine PySem.Call_method0 hbase hline (thn (ho pins s σ H _ I h) fun v s1 ⟨x, H1, I1, r1, q1⟩ => ?_)
  obtain ⟨⟨a, rfl⟩, q1⟩ := q1
  obtain ⟨t, rfl⟩ := _root_.id r1
  exact ⟨"str", _, F.plainAttrs_str, slot, ty, typeIs_str _ _ _, (fun _ e => nomatch e), Calls.callWith_builtin rfl (PySem.evalArgs_none (rule pins s1 σ H1 _ [] _ [] Q I1 r1 .nil q1))⟩
end
end L2
namespace L2
open PySem PySem.Spec PyProof.Rows
section
variable {X : Cx}
end
theorem IsPart.raw {v : Value} {o : Option Int} (p : IsPart v o) : ∃ l : Option (Int × Tok), v = partValue l ∧ l.map (·.1) = o := by
  cases p with
  | none => exact ⟨none, rfl, rfl⟩
  | int i t => exact ⟨some (i, t), rfl, rfl⟩
end L2
namespace Att
open PySem PySem.W PySem.Calls PyProof.Rows
section
variable {prog : Program} {w : World} {A : Around} {E : Value → Shared → Prop} {s : Shared} {K : Frag}
def ledger (h : Heap) (L d : Addr) : List (Addr × Obj) := (List.range h.objs.size).filterMap fun a => if a = L ∨ a = d then none else (h.get? a).map fun o => (a, o)
end
end Att
namespace L2
open PySem PySem.Spec PyProof.Rows
end L2
namespace L2
open PySem PySem.Spec PyProof.Rows
end L2
namespace L2
open PySem PySem.Spec PyProof.Rows
def inClass (s : Stmt) (j : Nat) : Stmt := match s with
  | .ClassDef _ _ _ body _ _ _ _ _ _ _ => body.getD j (.Pass ⟨0, 0, 0, 0⟩)
  | _ => .Pass ⟨0, 0, 0, 0⟩
def defArgs (s : Stmt) : Arguments := match s with
  | .FunctionDef _ a _ _ _ _ _ _ _ _ => a
  | _ => { posonlyargs := [], args := [], vararg := none, kwonlyargs := [], kw_defaults := [], kwarg := none, defaults := [] }
def defBody (s : Stmt) : List Stmt := match s with
  | .FunctionDef _ _ b _ _ _ _ _ _ _ => b
  | _ => []
def defScope (s : Stmt) : Scope := match s with
  | .FunctionDef _ _ _ _ _ _ sc _ _ _ => sc
  | _ => { kind := .function, names := [], isGenerator := false, isCoroutine := false }
abbrev CX0 : CXT := fun _ _ _ _ _ _ => False
abbrev E0 : XK := fun _ _ _ => False
theorem pass0 {X : Cx} : Passes CX0 X E0 := fun _ _ _ _ _ _ _ h => h.elim
structure Fun (K : PySem.W.Frag) (x qual : Str) (st : Stmt) (f : Addr) (fd : FuncData) : Prop where
  ex : ∃ (oc : Value) (od : Option Addr) (kV doc pm : Value) (an : Option Addr) (cdv ct : Value) (osl : Array (Option Value)),
    fd = PySem.W.fnOf x qual (defArgs st) (defBody st) (defScope st) .none kV doc pm an cdv ct ∧ K.lookup f = some ⟨oc, od, .func fd, osl⟩ ∧ PySem.W.codeIn K cdv qual = true
  kp : PySem.W.keepIn K (.ref f) = true
section
variable {P : Program} {w : World} {K : PySem.W.Frag} {mg : Str → Option Value} {base : Heap}
theorem Fun.ok {x qual : Str} {st : Stmt} {f : Addr} {fd : FuncData} {N ps : List Str} {k : Nat} {sp : Sp} (F : Fun K x qual st f fd) (S : FnScope N ps (defScope st)) (len : ∀ vs H Q E, sp vs H Q E → vs.length = ps.length)
    (hbody : ∀ (cdv : Value) (A : Around) (outer : List Env) (s : Shared) (H : Hp) (vs : List V) (Q : VK) (E : XK), Room k (A.deeper (envOfC qual (defScope st) s.heap.objs.size f cdv)) → sp vs H Q E →
      ∃ t, PSs (cxOf CX0 P w K mg base N qual (defScope st) f cdv A outer s H E).nox (defBody st) t ∧ t { nx := fun _ H' => Q .non H', rt := Q } (start N vs) H) : FnOk P w K mg base CX0 (k + 1) f fd ps sp := by
  obtain ⟨oc, od, kV, doc, pm, an, cdv, ct, osl, rfl, lk, hcd⟩ := F.ex
  refine fn_of lk hcd S len fun A outer s H vs Q E hr hsp => ?_
  obtain ⟨t, h, q⟩ := hbody cdv A outer s H vs Q E hr hsp
  exact ⟨t, h.nox, q⟩
theorem Fun.binds {x qual : Str} {st : Stmt} {f : Addr} {fd : FuncData} {ps : List Str} (F : Fun K x qual st f fd)
    (h : ∀ (kV doc pm : Value) (an : Option Addr) (cdv ct : Value) (us : List Value), us.length = ps.length → bindArgs (PySem.W.fnOf x qual (defArgs st) (defBody st) (defScope st) .none kV doc pm an cdv ct) ⟨us, []⟩ = pure (ps.zip us)) : Binds K fd ps [] := by
  obtain ⟨oc, od, kV, doc, pm, an, cdv, ct, osl, rfl, lk, hcd⟩ := F.ex
  exact .all (h kV doc pm an cdv ct)
theorem fun_mk {x qual : Str} {st : Stmt} {f : Addr} {oc : Value} {od an : Option Addr} {osl : Array (Option Value)} {kV doc pm cdv ct : Value} (l : K.lookup f = some ⟨oc, od, .func (PySem.W.fnOf x qual (defArgs st) (defBody st) (defScope st) .none kV doc pm an cdv ct), osl⟩)
    (c : PySem.W.codeIn K cdv qual = true) (k : PySem.W.keepIn K (.ref f) = true) : Fun K x qual st f (PySem.W.fnOf x qual (defArgs st) (defBody st) (defScope st) .none kV doc pm an cdv ct) := ⟨⟨oc, od, kV, doc, pm, an, cdv, ct, osl, rfl, l, c⟩, k⟩
end
theorem hu_of {A : Around} {k : Nat} (hr : Room k A) : A.units + 1 < cLine := Nat.lt_of_le_of_lt (Nat.add_le_add_left (by decide : 1 ≤ 64) _) hr.units
theorem small1000 {n : Nat} (h : n ≤ 1000) : n < sizeLine := Nat.lt_of_le_of_lt h (by decide)
section
variable {X : Cx}
theorem pv (i : Nat) {x : Str} {pos : Pos} (hN : X.N[i]? = some x := by rfl) (hv : Vis X.env.scope x := by first | exact Or.inl rfl | exact Or.inr (Or.inl rfl) | exact Or.inr (Or.inr rfl)) (hd : (x == ("__debug__" : Str)) = false := by decide)
    (hcd : (x == ("__classdict__" : Str)) = false := by decide) : PE X (.Name x pos) (tVar i) := pe_var hN hv hd hcd
theorem call_lenD : CallR X (.builtin "len") (fun xs H Q => ∃ a kvs, xs = [V.ref a] ∧ H a = some (.dK kvs) ∧ Q (.int kvs.length) H) := by
  intro pins s σ H xs us Q I r h
  obtain ⟨a, kvs, rfl, ha, q⟩ := h
  obtain ⟨u, rfl, ru⟩ := vals1 r
  cases ru
  exact d_len I (.inl ha) fun t s' I' => ⟨.int kvs.length, H, I', ⟨t, rfl⟩, q⟩
end
theorem iteF {A B : Prop} (h : B) : if false = true then A else B := by
  rw [if_neg Bool.false_ne_true]
  exact h
theorem iteT {A B : Prop} (h : A) : if true = true then A else B := by
  rw [if_pos rfl]
  exact h
theorem ite2 {c A B : Prop} [Decidable c] (h1 : c → A) (h2 : ¬ c → B) : if c then A else B := by
  by_cases h : c
  · rw [if_pos h]
    exact h1 h
  · rw [if_neg h]
    exact h2 h
def Same (H H' : Hp) : Prop := ∀ b o, H b = some o → H' b = some o
theorem Same.refl (H : Hp) : Same H H := fun _ _ h => h
theorem Same.trans {H H1 H2 : Hp} (a : Same H H1) (b : Same H1 H2) : Same H H2 := fun c o h => b c o (a c o h)
theorem Same.free {H H' : Hp} (e : Same H H') {l : Addr} (h : H' l = Option.none) : H l = Option.none := by
  cases q : H l with
  | none => rfl
  | some o =>
    rw [e l o q] at h
    cases h
theorem Same.seq {K : PySem.W.Frag} {H H' : Hp} {a : Addr} {xs : List V} (e : Same H H') (h : SqL K H a xs) : SqL K H' a xs := by
  rcases h with (h | ⟨o, h⟩) | h
  · exact .inl (.inl (e _ _ h))
  · exact .inl (.inr ⟨o, e _ _ h⟩)
  · exact .inr h
section
variable {κ : Type} [DecidableEq κ]
end
theorem nd_ix {α : Type} {l : List α} (hN : l.Nodup) {i j : Nat} {x : α} (a : l[i]? = some x) (b : l[j]? = some x) : i = j := by
  obtain ⟨h1, e1⟩ := List.getElem?_eq_some_iff.mp a
  obtain ⟨h2, e2⟩ := List.getElem?_eq_some_iff.mp b
  exact (List.getElem_inj hN).mp (e1.trans e2.symm)
theorem Same.made {H H1 : Hp} {x dx C : Addr} (nx : H x = Option.none) (nd : H dx = Option.none) (k : ∀ b o, (upd (upd H dx (.own x)) x (.ins C dx [])) b = some o → b ≠ x → H1 b = some o) : Same H H1 := fun b o e =>
  k b o (by rw [upd_ne (ne_of_none e nx), upd_ne (ne_of_none e nd)]; exact e) (ne_of_none e nx)
end L2
section
set_option Elab.async false
set_option linter.all false
set_option maxRecDepth 100000
set_option maxHeartbeats 2000000
namespace L2
open PySem PySem.Spec PyProof.Rows
open PySem.W (WData Codec OpenSpec Well WellAll ReadsW ReadsAllW)
mutual
inductive Dw (K : PySem.W.Frag) (H : Hp) : V → WData → Prop
  | non : Dw K H .non .none
  | bl (b : Bool) : Dw K H (.bl b) (.bool b)
  | int (i : Int) : Dw K H (.int i) (.int i)
  | str (x : Str) : Dw K H (.str x) (.str x)
  | byt (b : Array UInt8) : Dw K H (.byt b) (.bytes b.toList)
  | lst {a : Addr} {xs : List V} {ds : List WData} : SqL K H a xs → DwAll K H xs ds → Dw K H (.ref a) (.list ds)
  | tup {a : Addr} {xs : List V} {ds : List WData} : SqT K H a xs → DwAll K H xs ds → Dw K H (.ref a) (.tuple ds)
inductive DwAll (K : PySem.W.Frag) (H : Hp) : List V → List WData → Prop
  | nil : DwAll K H [] []
  | cons {v : V} {vs : List V} {d : WData} {ds : List WData} : Dw K H v d → DwAll K H vs ds → DwAll K H (v :: vs) (d :: ds)
end
theorem dw_ints {K : PySem.W.Frag} {H : Hp} : ∀ ns : List Int, DwAll K H (ns.map V.int) (ns.map WData.int)
  | [] => .nil
  | n :: r => .cons (.int n) (dw_ints r)
theorem ints_dw {K : PySem.W.Frag} {H : Hp} : ∀ (ns : List Int) (xs : List V), DwAll K H xs (ns.map WData.int) → xs = ns.map V.int
  | [], xs, h => by
    cases h
    rfl
  | n :: r, xs, h => by
    cases h with
    | cons h1 h2 =>
      cases h1
      rw [ints_dw r _ h2] <;> rfl
section
variable {P : Program} {w : World} {K : PySem.W.Frag} {H : Hp} {h : Heap} {R : PySem.W.WRecords} {cl : Str → Option Addr}
theorem sqL_at {a : Addr} {xs : List V} (hok : HOk P w H h) (KX : K.In h) (q : SqL K H a xs) : ∃ (its : List Value) (o : Obj) (n : Nat), Vals xs its ∧ h.get? a = some o ∧ o.cls = .type "list" ∧ o.data = .seq its.toArray n := by
  rcases q with q | ⟨o, its, n, e, hc, _, hd, _, hv⟩
  · obtain ⟨_, its, n, hv, e⟩ := (show ObjOk P w H h a (.lst xs) from q.ok hok)
    exact ⟨its, _, n, hv, e, rfl, rfl⟩
  · exact ⟨its.toList, o, n, hv, KX _ _ e, hc, by simp [hd]⟩
theorem sqT_at {a : Addr} {xs : List V} (hok : HOk P w H h) (KX : K.In h) (q : SqT K H a xs) : ∃ (its : List Value) (o : Obj) (n : Nat), Vals xs its ∧ h.get? a = some o ∧ o.cls = .type "tuple" ∧ o.data = .seq its.toArray n := by
  rcases q with q | ⟨o, its, n, e, hc, hd, _, hv⟩
  · obtain ⟨_, its, hv, o, e, hc, n, hd⟩ := (show ObjOk P w H h a (.tup xs) from q.ok hok)
    exact ⟨its, o, n, hv, e, hc, hd⟩
  · exact ⟨its.toList, o, n, hv, KX _ _ e, hc, by simp [hd]⟩
mutual
theorem Dw.reads (hok : HOk P w H h) (KX : K.In h) : ∀ (d : WData) (v : V) (u : Value), Dw K H v d → RelV v u → ∃ as, ReadsW R cl h u d as
  | .none, _, _, x, r => by
    cases x
    cases r
    exact ⟨_, ReadsW.none⟩
  | .bool b, _, _, x, r => by
    cases x
    cases r
    exact ⟨_, ReadsW.bool b⟩
  | .int i, _, _, x, r => by
    cases x
    obtain ⟨t, rfl⟩ := r
    exact ⟨_, ReadsW.int i t⟩
  | .str s, _, _, x, r => by
    cases x
    obtain ⟨t, rfl⟩ := r
    exact ⟨_, ReadsW.str s t⟩
  | .bytes b, _, _, x, r => by
    cases x
    obtain ⟨t, rfl⟩ := r
    exact ⟨_, ReadsW.bytes _ t⟩
  | .list ds, _, _, x, r => by
    cases x with
    | lst hs ha =>
      cases r
      obtain ⟨its, o, n, rv, ho, hc, hd⟩ := sqL_at hok KX hs
      obtain ⟨as, hr⟩ := Dw.readsAll hok KX ds _ its ha rv
      exact ⟨_, ReadsW.list ho hc hd hr⟩
  | .tuple ds, _, _, x, r => by
    cases x with
    | tup hs ha =>
      cases r
      obtain ⟨its, o, n, rv, ho, hc, hd⟩ := sqT_at hok KX hs
      obtain ⟨as, hr⟩ := Dw.readsAll hok KX ds _ its ha rv
      exact ⟨_, ReadsW.tuple ho hc hd hr⟩
  | .float _, _, _, x, _ => by cases x
  | .dict _, _, _, x, _ => by cases x
  | .bytearray _, _, _, x, _ => by cases x
  | .set _, _, _, x, _ => by cases x
  | .frozenset _, _, _, x, _ => by cases x
  | .obj _ _, _, _, x, _ => by cases x
theorem Dw.readsAll (hok : HOk P w H h) (KX : K.In h) : ∀ (ds : List WData) (vs : List V) (us : List Value), DwAll K H vs ds → Vals vs us → ∃ as, ReadsAllW R cl h us ds as
  | [], _, _, x, r => by
    cases x
    cases r
    exact ⟨_, ReadsAllW.nil⟩
  | d :: ds, _, _, x, r => by
    cases x with
    | cons h1 h2 =>
      cases r with
      | cons r1 r2 =>
        obtain ⟨as, q1⟩ := Dw.reads hok KX d _ _ h1 r1
        obtain ⟨bs, q2⟩ := Dw.readsAll hok KX ds _ _ h2 r2
        exact ⟨_, ReadsAllW.cons q1 q2⟩
end
end
mutual
def plW : WData → Bool
  | .none => true
  | .bool _ => true
  | .int _ => true
  | .str _ => true
  | .bytes _ => true
  | .list xs => plWs xs
  | .tuple xs => plWs xs
  | _ => false
def plWs : List WData → Bool
  | [] => true
  | x :: r => plW x && plWs r
end
theorem plWs_map {α : Type} {f : α → WData} (h : ∀ a, plW (f a) = true) : ∀ l : List α, plWs (l.map f) = true
  | [] => rfl
  | x :: r => by
    show (plW (f x) && plWs (r.map f)) = true
    rw [h x, plWs_map h r] <;> rfl
theorem pl_enc : ∀ (c : Codec) (a : c.denote), plW (c.enc a) = true
  | .unit, _ => rfl
  | .bool, _ => rfl
  | .int _ _, _ => rfl
  | .nat _ _, _ => rfl
  | .u8, _ => rfl
  | .bytes _ _, _ => rfl
  | .text _ _ _ _, _ => rfl
  | .list _ _ c, a => plWs_map (fun x => pl_enc c x) a
  | .pair c d, a => by
    show (plW (c.enc a.1) && (plW (d.enc a.2) && true)) = true
    rw [pl_enc c a.1, pl_enc d a.2] <;> rfl
  | .triple c d e, a => by
    show (plW (c.enc a.1) && (plW (d.enc a.2.1) && (plW (e.enc a.2.2) && true))) = true
    rw [pl_enc c a.1, pl_enc d a.2.1, pl_enc e a.2.2] <;> rfl
  | .option c, none => rfl
  | .option c, some x => pl_enc c x
theorem pl_encAll : ∀ (cs : List Codec) (a : Codec.denoteAll cs), plWs (Codec.encAll cs a) = true
  | [], _ => rfl
  | c :: cs, a => by
    show (plW (c.enc a.1) && plWs (Codec.encAll cs a.2)) = true
    rw [pl_enc c a.1, pl_encAll cs a.2] <;> rfl
theorem weight_mem : ∀ {xs : List WData} {d : WData}, d ∈ xs → d.weight ≤ WData.weightAll xs
  | [], d, h => absurd h (by simp)
  | x :: r, d, h => by
    show d.weight ≤ x.weight + 1 + WData.weightAll r
    rcases List.mem_cons.mp h with e | m
    · rw [e]
      omega
    · have z := weight_mem m
      omega
def toV : Value → V
  | .none => .non
  | .bool b => .bl b
  | .int i _ => .int i
  | .str x _ => .str x
  | .bytes b _ => .byt b
  | .ref a => .ref a
  | _ => .non
def OkU (A : List Addr) : Value → Prop
  | .none => True
  | .bool _ => True
  | .int _ _ => True
  | .str _ _ => True
  | .bytes _ _ => True
  | .ref a => a ∈ A
  | _ => False
theorem OkU.mono {A B : List Addr} (h : ∀ a ∈ A, a ∈ B) : ∀ {u : Value}, OkU A u → OkU B u := fun {u} x => by
  cases u with
  | ref a => exact h a x
  | none => trivial
  | bool b => trivial
  | int i t => trivial
  | str s t => trivial
  | bytes b t => trivial
  | _ => exact False.elim x
theorem relV_toV {A : List Addr} {u : Value} (x : OkU A u) : RelV (toV u) u := by
  cases u with
  | ref a => rfl
  | none => rfl
  | bool b => rfl
  | int i t => exact ⟨t, rfl⟩
  | str s t => exact ⟨t, rfl⟩
  | bytes b t => exact ⟨t, rfl⟩
  | _ => exact False.elim x
theorem vals_toV {A : List Addr} : ∀ {vs : List Value}, (∀ u ∈ vs, OkU A u) → Vals (vs.map toV) vs
  | [], _ => .nil
  | u :: r, h => .cons (relV_toV (h u (List.mem_cons_self ..))) (vals_toV fun x hx => h x (List.mem_cons_of_mem _ hx))
def ArgOb (h : Heap) (A : List Addr) (a : Addr) : Prop := ∃ vs : List Value, vs.length ≤ sizeLine ∧ (∀ u ∈ vs, OkU A u) ∧
  (h.get? a = some { cls := .type "list", data := .seq vs.toArray } ∨ h.get? a = some { cls := .type "tuple", data := .seq vs.toArray })
theorem ArgOb.mono {h : Heap} {A B : List Addr} {a : Addr} (k : ∀ a ∈ A, a ∈ B) (x : ArgOb h A a) : ArgOb h B a := by
  obtain ⟨vs, h1, h2, h3⟩ := x
  exact ⟨vs, h1, fun u hu => (h2 u hu).mono k, h3⟩
theorem wellAll_len {P : Params} {h : Heap} : ∀ {vs : List Value} {ds : List WData}, WellAll P h vs ds → vs.length = ds.length
  | _, _, .nil => rfl
  | _, _, .cons _ b => by
    show _ + 1 = _ + 1
    rw [wellAll_len b]
theorem well_list {P : Params} {h : Heap} {v : Value} {ds : List WData} (x : Well P h v (.list ds)) : ∃ (a : Addr) (vs : List Value), v = .ref a ∧ h.get? a = some { cls := .type "list", data := .seq vs.toArray } ∧ WellAll P h vs ds := by
  cases x with
  | list ho hall => exact ⟨_, _, rfl, ho, hall⟩
theorem well_tuple {P : Params} {h : Heap} {v : Value} {ds : List WData} (x : Well P h v (.tuple ds)) : ∃ (a : Addr) (vs : List Value), v = .ref a ∧ h.get? a = some { cls := .type "tuple", data := .seq vs.toArray } ∧ WellAll P h vs ds := by
  cases x with
  | tuple ho hall => exact ⟨_, _, rfl, ho, hall⟩
theorem well_cons {P : Params} {h : Heap} {us : List Value} {d : WData} {ds : List WData} (x : WellAll P h us (d :: ds)) : ∃ (v : Value) (vs : List Value), us = v :: vs ∧ Well P h v d ∧ WellAll P h vs ds := by
  cases x with
  | cons a b => exact ⟨_, _, rfl, a, b⟩
theorem line_of {n : Nat} (h : n ≤ 1048576) : n ≤ sizeLine := Nat.le_trans h (by decide)
section
variable {P : Params} {h : Heap}
mutual
theorem area_one : ∀ (d : WData) (v : Value), Well P h v d → plW d = true → d.weight ≤ 1048576 → ∃ A : List Addr, OkU A v ∧ ∀ a ∈ A, ArgOb h A a
  | .none, _, x, _, _ => by
    cases x
    exact ⟨[], trivial, fun a m => absurd m (by simp)⟩
  | .bool b, _, x, _, _ => by
    cases x
    exact ⟨[], trivial, fun a m => absurd m (by simp)⟩
  | .int i, _, x, _, _ => by
    cases x
    exact ⟨[], trivial, fun a m => absurd m (by simp)⟩
  | .str s, _, x, _, _ => by
    cases x
    exact ⟨[], trivial, fun a m => absurd m (by simp)⟩
  | .bytes b, _, x, _, _ => by
    cases x
    exact ⟨[], trivial, fun a m => absurd m (by simp)⟩
  | .list ds, _, x, p, z => by
    obtain ⟨a, vs, rfl, ho, hall⟩ := well_list x
    have z2 : WData.weightAll ds ≤ 1048576 := z
    obtain ⟨A, h1, h2⟩ := area_all ds _ hall p fun d hd => Nat.le_trans (weight_mem hd) z2
    have k : ∀ b ∈ A, b ∈ a :: A := fun b hb => List.mem_cons_of_mem _ hb
    refine ⟨a :: A, List.mem_cons_self .., fun b hb => ?_⟩
    rcases List.mem_cons.mp hb with e | m
    · rw [e]
      exact ⟨vs, line_of (by rw [wellAll_len hall]; exact Nat.le_trans (PySem.W.length_le_weightAllW ds) z2), fun u hu => (h1 u hu).mono k, .inl ho⟩
    · exact (h2 b m).mono k
  | .tuple ds, _, x, p, z => by
    obtain ⟨a, vs, rfl, ho, hall⟩ := well_tuple x
    have z2 : WData.weightAll ds ≤ 1048576 := z
    obtain ⟨A, h1, h2⟩ := area_all ds _ hall p fun d hd => Nat.le_trans (weight_mem hd) z2
    have k : ∀ b ∈ A, b ∈ a :: A := fun b hb => List.mem_cons_of_mem _ hb
    refine ⟨a :: A, List.mem_cons_self .., fun b hb => ?_⟩
    rcases List.mem_cons.mp hb with e | m
    · rw [e]
      exact ⟨vs, line_of (by rw [wellAll_len hall]; exact Nat.le_trans (PySem.W.length_le_weightAllW ds) z2), fun u hu => (h1 u hu).mono k, .inr ho⟩
    · exact (h2 b m).mono k
  | .float _, _, _, p, _ => Bool.noConfusion (show false = true from p)
  | .dict _, _, _, p, _ => Bool.noConfusion (show false = true from p)
  | .bytearray _, _, _, p, _ => Bool.noConfusion (show false = true from p)
  | .set _, _, _, p, _ => Bool.noConfusion (show false = true from p)
  | .frozenset _, _, _, p, _ => Bool.noConfusion (show false = true from p)
  | .obj _ _, _, _, p, _ => Bool.noConfusion (show false = true from p)
theorem area_all : ∀ (ds : List WData) (vs : List Value), WellAll P h vs ds → plWs ds = true → (∀ d ∈ ds, d.weight ≤ 1048576) → ∃ A : List Addr, (∀ u ∈ vs, OkU A u) ∧ ∀ a ∈ A, ArgOb h A a
  | [], _, x, _, _ => by
    cases x
    exact ⟨[], fun u m => absurd m (by simp), fun a m => absurd m (by simp)⟩
  | d :: ds, _, x, p, z => by
    obtain ⟨v, vs, rfl, x1, x2⟩ := well_cons x
    have q : plW d = true ∧ plWs ds = true := Bool.and_eq_true_iff.mp p
    obtain ⟨A, a1, a2⟩ := area_one d v x1 q.1 (z d (List.mem_cons_self ..))
    obtain ⟨B, b1, b2⟩ := area_all ds vs x2 q.2 fun e he => z e (List.mem_cons_of_mem _ he)
    have kA : ∀ b ∈ A, b ∈ A ++ B := fun b hb => List.mem_append.mpr (.inl hb)
    have kB : ∀ b ∈ B, b ∈ A ++ B := fun b hb => List.mem_append.mpr (.inr hb)
    refine ⟨A ++ B, fun u hu => ?_, fun b hb => ?_⟩
    · rcases List.mem_cons.mp hu with e | m
      · rw [e]
        exact a1.mono kA
      · exact (b1 u m).mono kB
    · rcases List.mem_append.mp hb with m | m
      · exact (a2 b m).mono kA
      · exact (b2 b m).mono kB
end
end
def hoOf (o : Obj) : Option HO := match o.data with
  | .seq vs _ => if (o.cls == Value.type "list") = true then some (.frz o (.lst (vs.toList.map toV))) else some (.frz o (.tup (vs.toList.map toV)))
  | _ => none
def argH (K : PySem.W.Frag) (h : Heap) (A : List Addr) : Hp := fun b => if b ∈ A then (if (K.lookup b).isNone = true then (h.get? b).bind hoOf else none) else none
def OnlyF (H : Hp) : Prop := ∀ b, H b = none ∨ ∃ o u, H b = some (.frz o u)
theorem hoOf_lst (vs : List Value) : hoOf { cls := .type "list", data := .seq vs.toArray } = some (.frz { cls := .type "list", data := .seq vs.toArray } (.lst (vs.map toV))) := by
  show (if (Value.type "list" == Value.type "list") = true then some (HO.frz { cls := .type "list", data := .seq vs.toArray } (.lst (vs.toArray.toList.map toV))) else some (HO.frz { cls := .type "list", data := .seq vs.toArray } (.tup (vs.toArray.toList.map toV)))) = _
  rw [if_pos (beq_self_eq_true _)]
theorem hoOf_tup (vs : List Value) : hoOf { cls := .type "tuple", data := .seq vs.toArray } = some (.frz { cls := .type "tuple", data := .seq vs.toArray } (.tup (vs.map toV))) := by
  show (if (Value.type "tuple" == Value.type "list") = true then some (HO.frz { cls := .type "tuple", data := .seq vs.toArray } (.lst (vs.toArray.toList.map toV))) else some (HO.frz { cls := .type "tuple", data := .seq vs.toArray } (.tup (vs.toArray.toList.map toV)))) = _
  rw [if_neg (by decide)]
section
variable {P : Program} {w : World} {K : PySem.W.Frag} {h : Heap} {A : List Addr}
theorem argH_at {b : Addr} {o : Obj} (hb : b ∈ A) (hk : K.lookup b = none) (e : h.get? b = some o) : argH K h A b = hoOf o := by
  unfold argH
  rw [if_pos hb, hk, if_pos (show (none : Option Obj).isNone = true from rfl), e] <;> rfl
theorem of_argH {b : Addr} {u : HO} (q : argH K h A b = some u) : b ∈ A ∧ K.lookup b = none := by
  unfold argH at q
  by_cases hb : b ∈ A
  · rw [if_pos hb] at q
    cases hk : K.lookup b with
    | none => exact ⟨hb, rfl⟩
    | some o =>
      rw [hk, if_neg (by simp)] at q
      cases q
  · rw [if_neg hb] at q
    cases q
theorem argH_is (ar : ∀ a ∈ A, ArgOb h A a) {b : Addr} {u : HO} (q : argH K h A b = some u) : K.lookup b = none ∧ ∃ vs : List Value, vs.length ≤ sizeLine ∧ (∀ u ∈ vs, OkU A u) ∧
    ((h.get? b = some { cls := .type "list", data := .seq vs.toArray } ∧ u = .frz { cls := .type "list", data := .seq vs.toArray } (.lst (vs.map toV))) ∨
     (h.get? b = some { cls := .type "tuple", data := .seq vs.toArray } ∧ u = .frz { cls := .type "tuple", data := .seq vs.toArray } (.tup (vs.map toV)))) := by
  obtain ⟨hb, hk⟩ := of_argH q
  obtain ⟨vs, h1, h2, h3⟩ := ar b hb
  refine ⟨hk, vs, h1, h2, ?_⟩
  rcases h3 with e | e
  · rw [argH_at hb hk e, hoOf_lst] at q
    exact .inl ⟨e, (Option.some.inj q).symm⟩
  · rw [argH_at hb hk e, hoOf_tup] at q
    exact .inr ⟨e, (Option.some.inj q).symm⟩
theorem argH_only (ar : ∀ a ∈ A, ArgOb h A a) : OnlyF (argH K h A) := fun b => by
  cases q : argH K h A b with
  | none => exact .inl rfl
  | some u =>
    obtain ⟨_, vs, _, _, ⟨_, e⟩ | ⟨_, e⟩⟩ := argH_is ar q
    · exact .inr ⟨_, _, by rw [e]⟩
    · exact .inr ⟨_, _, by rw [e]⟩
theorem argH_ok (ar : ∀ a ∈ A, ArgOb h A a) : HOk P w (argH K h A) h := fun b u q => by
  obtain ⟨_, vs, h1, h2, ⟨e, rfl⟩ | ⟨e, rfl⟩⟩ := argH_is ar q
  · exact ⟨e, by rw [List.length_map]; exact h1, vs, _, vals_toV h2, e⟩
  · exact ⟨e, by rw [List.length_map]; exact h1, vs, vals_toV h2, _, e, rfl, _, rfl⟩
theorem seq_inj {c c' : Value} {vs us : List Value} (e : (some { cls := c, data := .seq vs.toArray } : Option Obj) = some { cls := c', data := .seq us.toArray }) : c = c' ∧ vs = us := by
  have e1 := Option.some.inj e
  have e2 : c = c' := congrArg Obj.cls e1
  have e3 : Data.seq vs.toArray = Data.seq us.toArray := congrArg Obj.data e1
  injection e3 with e4
  refine ⟨e2, ?_⟩
  have e5 := congrArg Array.toList e4
  simpa using e5
theorem argL (KX : K.In h) (ar : ∀ a ∈ A, ArgOb h A a) {a : Addr} {vs : List Value} (ha : a ∈ A) (e : h.get? a = some { cls := .type "list", data := .seq vs.toArray }) : (∀ u ∈ vs, OkU A u) ∧ SqL K (argH K h A) a (vs.map toV) := by
  obtain ⟨us, h1, h2, h3⟩ := ar a ha
  have hu : us = vs := by
    rcases h3 with q | q
    · rw [e] at q
      exact (seq_inj q).2.symm
    · rw [e] at q
      exact absurd (Value.type.inj (seq_inj q).1) (by decide)
  subst hu
  refine ⟨h2, ?_⟩
  cases hk : K.lookup a with
  | none => exact .inl (.inr ⟨_, by rw [argH_at ha hk e, hoOf_lst]⟩)
  | some o =>
    have e2 := KX a o hk
    rw [e] at e2
    obtain rfl := Option.some.inj e2
    exact .inr ⟨_, us.toArray, _, hk, rfl, rfl, rfl, by rw [List.size_toArray]; exact h1, by simpa using vals_toV h2⟩
theorem argT (KX : K.In h) (ar : ∀ a ∈ A, ArgOb h A a) {a : Addr} {vs : List Value} (ha : a ∈ A) (e : h.get? a = some { cls := .type "tuple", data := .seq vs.toArray }) : (∀ u ∈ vs, OkU A u) ∧ SqT K (argH K h A) a (vs.map toV) := by
  obtain ⟨us, h1, h2, h3⟩ := ar a ha
  have hu : us = vs := by
    rcases h3 with q | q
    · rw [e] at q
      exact absurd (Value.type.inj (seq_inj q).1) (by decide)
    · rw [e] at q
      exact (seq_inj q).2.symm
  subst hu
  refine ⟨h2, ?_⟩
  cases hk : K.lookup a with
  | none => exact .inl (.inr ⟨_, by rw [argH_at ha hk e, hoOf_tup]⟩)
  | some o =>
    have e2 := KX a o hk
    rw [e] at e2
    obtain rfl := Option.some.inj e2
    exact .inr ⟨_, us.toArray, _, hk, rfl, rfl, by rw [List.size_toArray]; exact h1, by simpa using vals_toV h2⟩
mutual
theorem dw_one {Pm : Params} (KX : K.In h) (ar : ∀ a ∈ A, ArgOb h A a) : ∀ (d : WData) (v : Value), Well Pm h v d → plW d = true → OkU A v → Dw K (argH K h A) (toV v) d
  | .none, _, x, _, _ => by
    cases x
    exact .non
  | .bool b, _, x, _, _ => by
    cases x
    exact .bl b
  | .int i, _, x, _, _ => by
    cases x
    exact .int i
  | .str s, _, x, _, _ => by
    cases x
    exact .str s
  | .bytes b, _, x, _, _ => by
    cases x
    have z := Dw.byt (K := K) (H := argH K h A) b.toArray
    exact z
  | .list ds, _, x, p, hu => by
    obtain ⟨a, vs, rfl, ho, hall⟩ := well_list x
    obtain ⟨h2, hs⟩ := argL KX ar hu ho
    exact .lst hs (dw_all KX ar ds _ hall p h2)
  | .tuple ds, _, x, p, hu => by
    obtain ⟨a, vs, rfl, ho, hall⟩ := well_tuple x
    obtain ⟨h2, hs⟩ := argT KX ar hu ho
    exact .tup hs (dw_all KX ar ds _ hall p h2)
  | .float _, _, _, p, _ => Bool.noConfusion (show false = true from p)
  | .dict _, _, _, p, _ => Bool.noConfusion (show false = true from p)
  | .bytearray _, _, _, p, _ => Bool.noConfusion (show false = true from p)
  | .set _, _, _, p, _ => Bool.noConfusion (show false = true from p)
  | .frozenset _, _, _, p, _ => Bool.noConfusion (show false = true from p)
  | .obj _ _, _, _, p, _ => Bool.noConfusion (show false = true from p)
theorem dw_all {Pm : Params} (KX : K.In h) (ar : ∀ a ∈ A, ArgOb h A a) : ∀ (ds : List WData) (vs : List Value), WellAll Pm h vs ds → plWs ds = true → (∀ u ∈ vs, OkU A u) → DwAll K (argH K h A) (vs.map toV) ds
  | [], _, x, _, _ => by
    cases x
    exact .nil
  | d :: ds, _, x, p, hu => by
    obtain ⟨v, vs, rfl, x1, x2⟩ := well_cons x
    have q : plW d = true ∧ plWs ds = true := Bool.and_eq_true_iff.mp p
    exact .cons (dw_one KX ar d v x1 q.1 (hu _ (List.mem_cons_self ..))) (dw_all KX ar ds vs x2 q.2 fun u m => hu u (List.mem_cons_of_mem _ m))
end
end
theorem spec_call {P : Program} {w : World} {K : PySem.W.Frag} {mg mb : Str → Option Value} {CX : CXT} {k : Nat} {fa : Addr} {fd : FuncData} {ps : List Str} {sp : Sp} {s₁ : Shared} {vals : List Value} {ds : List WData} {R : PySem.W.WRecords} {cl : Str → Option Addr} {d0 : WData}
    (KX : K.In s₁.heap) (hns : s₁.heap.Ns mainGlobals mg) (hb : s₁.heap.Ns builtinsNs mb) (hbb : ∀ x : Str, x ≠ "__name__" → mb x = bootBuiltins x) (hlim : s₁.heap.NoLimit) (hg : s₁.gens = #[])
    (hwl : WellAll w.params s₁.heap vals ds) (hpl : plWs ds = true) (hwt : ∀ d ∈ ds, d.weight ≤ 1048576) (hr : Room k callerA)
    (F : ∀ base : Heap, K.In base → base.Ns mainGlobals mg → FnOk P w K mg base CX k fa fd ps sp) (hbind : ∀ (s : Shared) (us : List Value), us.length = ps.length → BindsTo s fd ⟨us, []⟩ (ps.zip us)) (hlen : ds.length = ps.length)
    (hsp : ∀ (H : Hp) (xs : List V), OnlyF H → DwAll K H xs ds → sp xs H (fun v H' => Dw K H' v d0) fun _ _ _ => False)
    (hCX : ∀ H e s', CX [] H s₁ (fun _ _ _ => False) e s' → False) :
    codeAny (model P w) callerA (.call (.ref fa) ⟨vals, []⟩) (fun r s' => ∃ u as, r = .ok (.ret u) ∧ ReadsW R cl s'.heap u d0 as ∧ OldK s₁.heap s'.heap ∧ s'.os = s₁.os ∧ AllBare s'.gens) s₁ := by
  obtain ⟨A, ho, ar⟩ := area_all ds vals hwl hpl hwt
  have hO : OnlyF (argH K s₁.heap A) := argH_only ar
  have hok : HOk P w (argH K s₁.heap A) s₁.heap := argH_ok ar
  have hS := dw_all KX ar ds vals hwl hpl ho
  have hV := vals_toV ho
  have hK : ∀ b u, argH K s₁.heap A b = some u → K.lookup b = none := fun b u q => (argH_is ar q).1
  have noA : ∀ {b : Addr} {o : Obj} {es : Array DictEntry} {ep : Nat}, s₁.heap.get? b = some o → o.data = .dict es ep → argH K s₁.heap A b = none := fun {b o es ep} e d => by
    cases q : argH K s₁.heap A b with
    | none => rfl
    | some u =>
      obtain ⟨_, vs, _, _, ⟨e2, _⟩ | ⟨e2, _⟩⟩ := argH_is ar q
      · rw [e2] at e
        cases e
        have d' : Data.seq vs.toArray _ = Data.dict es ep := d
        cases d'
      · rw [e2] at e
        cases e
        have d' : Data.seq vs.toArray _ = Data.dict es ep := d
        cases d'
  generalize argH K s₁.heap A = H at hO hok hS hK noA
  have base_of : ∀ {b : Addr} {o : Obj}, s₁.heap.get? b = some o → H b = none → (hidT s₁.heap H).get? b = some o := fun e n => hidT_get e n
  have nsK : ∀ {b : Addr} {m : Str → Option Value}, s₁.heap.Ns b m → (hidT s₁.heap H).Ns b m := fun {b m} ⟨o, es, ep, e, d, r⟩ => ⟨o, es, ep, base_of e (noA e d), d, r⟩
  have nK : ∀ b o, K.lookup b = some o → H b = none := fun b o e => by
    cases q : H b with
    | none => rfl
    | some u =>
      rw [hK b u q] at e
      cases e
  have hKb : K.In (hidT s₁.heap H) := fun b o e => base_of (KX b o e) (nK b o e)
  have hM : Mod K mg (hidT s₁.heap H) := ⟨hKb, nsK hns, ⟨mb, nsK hb, hbb⟩, let ⟨mc, h1, h2⟩ := hlim; ⟨mc, nsK h1, h2⟩⟩
  have e0 : Env0 P w K mg (hidT s₁.heap H) callerA [] s₁ H := ⟨rfl, hM, fun b o e => of_hidT e, Nat.le_of_eq (hidT_size _ _), trivial, fun b hb => absurd (show b ∈ ([] : List Addr) from hb) (by simp), hok, .of_eq hg⟩
  have hl : vals.length = ps.length := by rw [wellAll_len hwl]; exact hlen
  refine codeAny_mono ((F _ hKb (nsK hns)).run callerA [] s₁ H ⟨vals, []⟩ vals (vals.map toV) _ _ hr e0 (hbind s₁ vals hl) hV (hsp H _ hO hS)) fun r s' x => ?_
  cases r with
  | error e => exact (hCX H e s' x).elim
  | ok fl =>
    cases fl with
    | next => exact False.elim x
    | brk => exact False.elim x
    | cont => exact False.elim x
    | ret u =>
      obtain ⟨v, H', os, bare, un, hok', r', q⟩ := x
      have kept : ∀ b o, s₁.heap.get? b = some o → s'.heap.get? b = some o := fun b o e => by
        cases q2 : H b with
        | none => exact un.keep b o e q2 (by intro z; exact absurd (show b ∈ ([] : List Addr) from z) (by simp)) (by simp)
        | some u2 =>
          rcases hO b with z | ⟨ob, u3, z⟩
          · rw [q2] at z
            cases z
          · have z2 := un.frzs b ob _ z
            obtain ⟨e1, _⟩ := hok b _ z
            obtain ⟨e2, _⟩ := hok' b _ z2
            rw [e] at e1
            cases e1
            exact e2
      have KX' : K.In s'.heap := fun b o e => kept b o (KX b o e)
      obtain ⟨as, hrd⟩ := Dw.reads (R := R) (cl := cl) hok' KX' d0 v u q r'
      exact ⟨u, as, rfl, hrd, OldK.of_keep kept, os, bare⟩
theorem layable_weight {ds : List WData} (h : WData.layableAll ds = true) : ∀ d ∈ ds, d.weight ≤ 1048576 := fun d hd =>
  (PySem.W.layableW_iff.mp (List.all_eq_true.mp h d hd)).2.2
theorem encAll_len : ∀ (cs : List Codec) (a : Codec.denoteAll cs), (Codec.encAll cs a).length = cs.length
  | [], _ => rfl
  | c :: cs, a => by
    show (Codec.encAll cs a.2).length + 1 = cs.length + 1
    rw [encAll_len cs a.2]
theorem walk_spec {r : OpenSpec} {k : Nat} {q : Program} {loose : List Str} {XP : (Str → Option Value) → Heap → Prop} {YP : World → Heap → Prop} {d : DefRec} {K : Params → PySem.W.Frag} {CX : World → CXT} {ps : List Str} {sp : World → Sp}
    (hwell : r.wellSaid = true) (hdf : d.params.defaults = []) (hlen : r.args.length = ps.length) (hr : Room k callerA)
    (hY : ∀ (w : World) (h : Heap), YP w h → (K w.params).In h)
    (F : ∀ (w : World) (mg : Str → Option Value) (fa : Addr) (h : Heap), YP w h → (K w.params).In h → h.Ns mainGlobals mg → mg d.name = some (.ref fa) →
      ∃ fd : FuncData, (∀ (s : Shared) (us : List Value), us.length = ps.length → BindsTo s fd ⟨us, []⟩ (ps.zip us)) ∧
        ∀ base : Heap, (K w.params).In base → base.Ns mainGlobals mg → FnOk r.prog w (K w.params) mg base (CX w) k fa fd ps (sp w))
    (hsp : ∀ (w : World) (H : Hp) (xs : List V) (a : Codec.denoteAll r.args), OnlyF H → Codec.withinAll r.args a = true → Codec.app r.args r.asked a = true → DwAll (K w.params) H xs (Codec.encAll r.args a) →
      sp w xs H (fun v H' => Dw (K w.params) H' v (r.ret.enc (Codec.app r.args r.f a))) fun _ _ _ => False)
    (hCX : ∀ (w : World) (H : Hp) (s : Shared) (e : Value) (s' : Shared), CX w [] H s (fun _ _ _ => False) e s' → False) :
    PySem.W.WalkOS q loose XP YP r d [] (fun f vs => PySem.call f vs) := by
  intro w s_0 s₁ mg mb G Y fa o pm cd doc dV kV ho hd hcd hD hmg hg args vals as hpre hlay hrd hwl hlo
  obtain ⟨a, e1, e2⟩ := PySem.W.os_pre_some hpre
  obtain ⟨e3, hwi⟩ := Codec.encAll_of_decAll r.args args a e1
  subst e3
  have KX := hY w _ Y
  obtain ⟨fd, hb, hF⟩ := F w mg fa _ Y KX G.T.g hmg
  refine PySem.W.enter_call (codeAny_mono (spec_call (R := []) (cl := classAt s_0.heap) (d0 := r.ret.enc (Codec.app r.args r.f a)) KX G.T.g G.T.b G.T.builtins G.T.nolimit hg hwl (pl_encAll _ _) (layable_weight hlay) hr hF hb (by rw [encAll_len]; exact hlen)
    (fun H xs hO hS => hsp w H xs a hO hwi e2 hS) fun H e s' => hCX w H s₁ e s') fun r' s' hq => ?_)
  obtain ⟨u, as', rfl, h1, h2, h3, h4⟩ := hq
  exact ⟨.inl ⟨u, _, as', rfl, fun _ => rfl, h1, (OpenSpec.post_iff hwell hwi _ _).mpr rfl, fun z => Bool.noConfusion (show false = true from z)⟩, h2, h3, h4⟩
theorem walk_specK {r : OpenSpec} {k : Nat} {q : Program} {loose : List Str} {XP : (Str → Option Value) → Heap → Prop} {YP : World → Heap → Prop} {d : DefRec} {K : Params → PySem.W.Frag} {CX : CXT} {ps : List Str} {sp : PySem.W.Frag → Sp}
    (hwell : r.wellSaid = true) (hdf : d.params.defaults = []) (hlen : r.args.length = ps.length) (hr : Room k callerA)
    (hY : ∀ (w : World) (h : Heap), YP w h → (K w.params).In h)
    (F : ∀ (w : World) (mg : Str → Option Value) (fa : Addr) (h : Heap), YP w h → (K w.params).In h → h.Ns mainGlobals mg → mg d.name = some (.ref fa) →
      ∃ fd : FuncData, (∀ (s : Shared) (us : List Value), us.length = ps.length → BindsTo s fd ⟨us, []⟩ (ps.zip us)) ∧
        ∀ base : Heap, (K w.params).In base → base.Ns mainGlobals mg → FnOk r.prog w (K w.params) mg base CX k fa fd ps (sp (K w.params)))
    (hsp : ∀ (K : PySem.W.Frag) (H : Hp) (xs : List V) (a : Codec.denoteAll r.args), OnlyF H → Codec.withinAll r.args a = true → Codec.app r.args r.asked a = true → DwAll K H xs (Codec.encAll r.args a) →
      sp K xs H (fun v H' => Dw K H' v (r.ret.enc (Codec.app r.args r.f a))) fun _ _ _ => False)
    (hCX : ∀ (H : Hp) (s : Shared) (e : Value) (s' : Shared), CX [] H s (fun _ _ _ => False) e s' → False) :
    PySem.W.WalkOS q loose XP YP r d [] (fun f vs => PySem.call f vs) :=
  walk_spec (K := K) (CX := fun _ => CX) (sp := fun w => sp (K w.params)) hwell hdf hlen hr hY F (fun w H xs a h1 h2 h3 h4 => hsp (K w.params) H xs a h1 h2 h3 h4) fun _ H s e s' => hCX H s e s'
end L2
end
set_option Elab.async false
set_option linter.all false
namespace Hc
open Vbenag VbenCore
abbrev Inc (l : List Nat) : Prop := l.Pairwise (· < ·)
abbrev ltb : Nat → Nat → Bool := fun a b => decide (a < b)
theorem inc_ext : ∀ {l m : List Nat}, Inc l → Inc m → (∀ x, x ∈ l ↔ x ∈ m) → l = m
  | [], [], _, _, _ => rfl
  | [], b :: m, _, _, h => absurd ((h b).mpr (List.mem_cons_self ..)) (List.not_mem_nil)
  | a :: l, [], _, _, h => absurd ((h a).mp (List.mem_cons_self ..)) (List.not_mem_nil)
  | a :: l, b :: m, hl, hm, h => by
    have hl' := List.pairwise_cons.mp hl
    have hm' := List.pairwise_cons.mp hm
    have e : a = b := by
      have h1 := (h a).mp (List.mem_cons_self ..)
      have h2 := (h b).mpr (List.mem_cons_self ..)
      rcases List.mem_cons.mp h1 with h1 | h1
      · exact h1
      · rcases List.mem_cons.mp h2 with h2 | h2
        · exact h2.symm
        · have q1 := hm'.1 a h1
          have q2 := hl'.1 b h2
          omega
    subst e
    have r : l = m := inc_ext hl'.2 hm'.2 fun x => by
      constructor
      · intro hx
        have q := hl'.1 x hx
        rcases List.mem_cons.mp ((h x).mp (List.mem_cons_of_mem _ hx)) with z | z
        · omega
        · exact z
      · intro hx
        have q := hm'.1 x hx
        rcases List.mem_cons.mp ((h x).mpr (List.mem_cons_of_mem _ hx)) with z | z
        · omega
        · exact z
    rw [r]
theorem inc_range (n : Nat) : Inc (List.range n) := List.pairwise_lt_range
theorem Inc.filter {l : List Nat} (p : Nat → Bool) (h : Inc l) : Inc (l.filter p) := List.Pairwise.sublist List.filter_sublist h
theorem Inc.nodup {l : List Nat} (h : Inc l) : l.Nodup := List.Pairwise.imp (fun {a b} q => Nat.ne_of_lt q) h
theorem mem_insertBy (x y : Nat) : ∀ l : List Nat, y ∈ insertBy ltb x l ↔ y = x ∨ y ∈ l
  | [] => by simp [insertBy]
  | z :: l => by
    unfold insertBy
    split
    · simp
    · rw [List.mem_cons, mem_insertBy x y l, List.mem_cons]
      constructor
      · rintro (h | h | h)
        · exact .inr (.inl h)
        · exact .inl h
        · exact .inr (.inr h)
      · rintro (h | h | h)
        · exact .inr (.inl h)
        · exact .inl h
        · exact .inr (.inr h)
theorem inc_insertBy (x : Nat) : ∀ {l : List Nat}, Inc l → x ∉ l → Inc (insertBy ltb x l)
  | [], _, _ => List.pairwise_singleton _ _
  | z :: l, h, hx => by
    have h' := List.pairwise_cons.mp h
    unfold insertBy
    split
    · rename_i q
      have q : x < z := of_decide_eq_true q
      refine List.pairwise_cons.mpr ⟨fun y hy => ?_, h⟩
      rcases List.mem_cons.mp hy with e | hy
      · omega
      · have := h'.1 y hy
        omega
    · rename_i q
      have q : ¬ x < z := fun r => q (decide_eq_true r)
      have ne : x ≠ z := fun e => hx (by rw [e]; exact List.mem_cons_self ..)
      refine List.pairwise_cons.mpr ⟨fun y hy => ?_, inc_insertBy x h'.2 fun r => hx (List.mem_cons_of_mem _ r)⟩
      rcases (mem_insertBy x y l).mp hy with e | hy
      · omega
      · exact h'.1 y hy
theorem len_insertBy (x : Nat) : ∀ l : List Nat, (insertBy ltb x l).length = l.length + 1
  | [] => rfl
  | z :: l => by
    unfold insertBy
    split
    · rfl
    · show (insertBy ltb x l).length + 1 = _
      rw [len_insertBy x l]
      rfl
theorem sort_fold : ∀ (l acc : List Nat), Inc acc → l.Nodup → (∀ x ∈ l, x ∉ acc) →
    Inc (l.foldl (fun a x => insertBy ltb x a) acc) ∧ (∀ y, y ∈ l.foldl (fun a x => insertBy ltb x a) acc ↔ y ∈ l ∨ y ∈ acc) ∧ (l.foldl (fun a x => insertBy ltb x a) acc).length = l.length + acc.length
  | [], acc, h, _, _ => ⟨h, fun y => by simp, by simp⟩
  | x :: l, acc, h, hn, hd => by
    have hn' := List.nodup_cons.mp hn
    obtain ⟨r1, r2, r3⟩ := sort_fold l (insertBy ltb x acc) (inc_insertBy x h (hd x (List.mem_cons_self ..))) hn'.2 fun y hy q => by
      rcases (mem_insertBy x y acc).mp q with e | q
      · exact hn'.1 (by rw [← e]; exact hy)
      · exact hd y (List.mem_cons_of_mem _ hy) q
    refine ⟨r1, fun y => ?_, ?_⟩
    · show y ∈ l.foldl _ (insertBy ltb x acc) ↔ _
      rw [r2 y, mem_insertBy, List.mem_cons]
      constructor
      · rintro (q | q | q)
        · exact .inl (.inr q)
        · exact .inl (.inl q)
        · exact .inr q
      · rintro ((q | q) | q)
        · exact .inr (.inl q)
        · exact .inl q
        · exact .inr (.inr q)
    · show (l.foldl _ (insertBy ltb x acc)).length = _
      rw [r3, len_insertBy, List.length_cons]
      omega
theorem inc_sortBy {l : List Nat} (h : l.Nodup) : Inc (sortBy ltb l) := (sort_fold l [] List.Pairwise.nil h fun _ _ q => nomatch q).1
theorem mem_sortBy {l : List Nat} (h : l.Nodup) (y : Nat) : y ∈ sortBy ltb l ↔ y ∈ l := by
  have r := (sort_fold l [] List.Pairwise.nil h fun _ _ q => nomatch q).2.1 y
  rw [show sortBy ltb l = l.foldl (fun a x => insertBy ltb x a) [] from rfl, r]
  simp
theorem len_sortBy {l : List Nat} (h : l.Nodup) : (sortBy ltb l).length = l.length := by
  have r := (sort_fold l [] List.Pairwise.nil h fun _ _ q => nomatch q).2.2
  exact r
theorem sorted_is {l m : List Nat} (hn : l.Nodup) (hp : m.Perm l) (hs : m.Pairwise (· ≤ ·)) : m = sortBy ltb l := by
  have hm : m.Nodup := hp.nodup_iff.mpr hn
  have hi : Inc m := by
    have := hs.and hm
    exact List.Pairwise.imp (fun {a b} q => Nat.lt_of_le_of_ne q.1 q.2) this
  exact inc_ext hi (inc_sortBy hn) fun x => by rw [mem_sortBy hn]; exact hp.mem_iff
def only {α : Type} : List α → Option α
  | [r] => some r
  | _ => none
theorem only_of {α : Type} {l m : List α} (hl : l.Nodup) (hm : m.Nodup) (h : ∀ x, x ∈ l ↔ x ∈ m) : only l = only m := by
  have key : ∀ {l m : List α}, l.Nodup → (∀ x, x ∈ l ↔ x ∈ m) → ∀ r, m = [r] → l = [r] := by
    intro l m hl h r e
    subst e
    match l, hl, h with
    | [], _, h => exact absurd ((h r).mpr (List.mem_cons_self ..)) List.not_mem_nil
    | [a], _, h => rw [List.mem_singleton.mp ((h a).mp (List.mem_cons_self ..))]
    | a :: b :: t, hl, h =>
      have ea := List.mem_singleton.mp ((h a).mp (List.mem_cons_self ..))
      have eb := List.mem_singleton.mp ((h b).mp (List.mem_cons_of_mem _ (List.mem_cons_self ..)))
      have := (List.nodup_cons.mp hl).1
      exact absurd (by rw [ea, eb]; exact List.mem_cons_self ..) this
  match l, m with
  | [a], m => rw [key hm (fun x => (h x).symm) a rfl]
  | l, [b] => rw [key hl h b rfl]
  | [], [] => rfl
  | [], _ :: _ :: _ => rfl
  | _ :: _ :: _, [] => rfl
  | _ :: _ :: _, _ :: _ :: _ => rfl
theorem only_map {α β : Type} (f : α → β) : ∀ l : List α, only (l.map f) = (only l).map f
  | [] => rfl
  | [_] => rfl
  | _ :: _ :: _ => rfl
theorem only_some {α : Type} {l : List α} {r : α} (h : only l = some r) : l = [r] := by
  match l, h with
  | [a], h => rw [Option.some.inj h]
theorem only_len {α : Type} (l : List α) : only l = if l.length = 1 then l[0]? else none := by
  match l with
  | [] => rfl
  | [_] => rfl
  | _ :: _ :: t =>
    rw [if_neg (by simp)]
    rfl
theorem setsOf_zero (l : List Nat) : setsOf 0 l = [[]] := by cases l <;> rfl
theorem mem_setsOf : ∀ (k : Nat) (l f : List Nat), f ∈ setsOf k l ↔ f.Sublist l ∧ f.length = k
  | 0, l, f => by
    rw [setsOf_zero, List.mem_singleton]
    constructor
    · rintro rfl
      exact ⟨List.nil_sublist _, rfl⟩
    · rintro ⟨_, h⟩
      exact List.eq_nil_of_length_eq_zero h
  | k + 1, [], f => by
    show f ∈ [] ↔ _
    constructor
    · intro h
      nomatch h
    · rintro ⟨h, e⟩
      rw [List.sublist_nil.mp h] at e
      cases e
  | k + 1, a :: l, f => by
    show f ∈ (setsOf k l).map (fun s => a :: s) ++ setsOf (k + 1) l ↔ _
    rw [List.mem_append, List.mem_map, mem_setsOf (k + 1) l f]
    constructor
    · rintro (⟨g, hg, rfl⟩ | ⟨h, e⟩)
      · have := (mem_setsOf k l g).mp hg
        exact ⟨this.1.cons_cons a, by rw [List.length_cons, this.2]⟩
      · exact ⟨h.cons a, e⟩
    · rintro ⟨h, e⟩
      cases h with
      | cons _ h => exact .inr ⟨h, e⟩
      | cons_cons _ h => exact .inl ⟨_, (mem_setsOf k l _).mpr ⟨h, Nat.succ.inj e⟩, rfl⟩
theorem nodup_setsOf : ∀ (k : Nat) {l : List Nat}, l.Nodup → (setsOf k l).Nodup
  | 0, _, _ => by rw [setsOf_zero]; exact List.nodup_cons.mpr ⟨List.not_mem_nil, List.nodup_nil⟩
  | _ + 1, [], _ => List.nodup_nil
  | k + 1, a :: l, h => by
    have h' := List.nodup_cons.mp h
    show ((setsOf k l).map (fun s => a :: s) ++ setsOf (k + 1) l).Nodup
    refine List.nodup_append.mpr ⟨?_, nodup_setsOf (k + 1) h'.2, ?_⟩
    · refine List.pairwise_map.mpr (List.Pairwise.imp (fun {x y} q e => q (List.cons.inj e).2) (nodup_setsOf k h'.2))
    · intro x hx y hy e
      obtain ⟨g, _, rfl⟩ := List.mem_map.mp hx
      subst e
      exact h'.1 (((mem_setsOf _ _ _).mp hy).1.subset (List.mem_cons_self ..))
theorem mem_parts (l f : List Nat) : f ∈ parts l ↔ f.Sublist l := by
  unfold parts
  rw [List.mem_flatMap]
  constructor
  · rintro ⟨k, _, h⟩
    exact ((mem_setsOf _ _ _).mp h).1
  · intro h
    exact ⟨f.length, List.mem_range.mpr (Nat.lt_succ_of_le h.length_le), (mem_setsOf _ _ _).mpr ⟨h, rfl⟩⟩
theorem nodup_parts {l : List Nat} (h : l.Nodup) : (parts l).Nodup := by
  unfold parts
  refine List.pairwise_flatMap.mpr ⟨fun k _ => nodup_setsOf k h, ?_⟩
  refine List.Pairwise.imp (fun {a b} q x hx y hy e => ?_) (inc_range (l.length + 1))
  subst e
  have e1 := ((mem_setsOf _ _ _).mp hx).2
  have e2 := ((mem_setsOf _ _ _).mp hy).2
  omega
def fills (l : List Nat) : List (List Nat) := l.foldl (fun fs c => fs ++ fs.map (fun f => f ++ [c])) [[]]
theorem fills_snoc (l : List Nat) (c : Nat) : fills (l ++ [c]) = fills l ++ (fills l).map (fun f => f ++ [c]) := by
  unfold fills
  rw [List.foldl_append]
  rfl
theorem sub_snoc {f l : List Nat} {c : Nat} : f.Sublist (l ++ [c]) ↔ f.Sublist l ∨ ∃ g, g.Sublist l ∧ f = g ++ [c] := by
  rw [List.sublist_append_iff]
  constructor
  · rintro ⟨g, h, rfl, hg, hh⟩
    cases hh with
    | cons _ q =>
      rw [List.sublist_nil.mp q, List.append_nil]
      exact .inl hg
    | cons_cons _ q =>
      rw [List.sublist_nil.mp q]
      exact .inr ⟨g, hg, rfl⟩
  · rintro (h | ⟨g, hg, rfl⟩)
    · exact ⟨f, [], (List.append_nil f).symm, h, List.nil_sublist _⟩
    · exact ⟨g, [c], rfl, hg, List.Sublist.refl _⟩
theorem fills_ok : ∀ {l : List Nat}, l.reverse.Nodup → (fills l.reverse).Nodup ∧ (∀ f, f ∈ fills l.reverse ↔ f.Sublist l.reverse) ∧ (fills l.reverse).length = 2 ^ l.length
  | [], _ => ⟨by decide, fun f => by rw [show fills ([] : List Nat).reverse = [[]] from rfl, List.mem_singleton]; exact List.sublist_nil.symm, rfl⟩
  | c :: l, h => by
    rw [List.reverse_cons] at h ⊢
    have h' := List.nodup_append.mp h
    obtain ⟨i1, i2, i3⟩ := fills_ok h'.1
    have hc : c ∉ l.reverse := fun q => h'.2.2 c q c (List.mem_cons_self ..) rfl
    rw [fills_snoc]
    refine ⟨List.nodup_append.mpr ⟨i1, ?_, ?_⟩, fun f => ?_, ?_⟩
    · exact List.pairwise_map.mpr (List.Pairwise.imp (fun {x y} q e => q (List.append_cancel_right e)) i1)
    · intro x hx y hy e
      obtain ⟨g, _, rfl⟩ := List.mem_map.mp hy
      subst e
      exact hc (((i2 _).mp hx).subset (List.mem_append_right _ (List.mem_cons_self ..)))
    · rw [List.mem_append, List.mem_map, i2 f, sub_snoc]
      constructor
      · rintro (q | ⟨g, hg, rfl⟩)
        · exact .inl q
        · exact .inr ⟨g, (i2 g).mp hg, rfl⟩
      · rintro (q | ⟨g, hg, rfl⟩)
        · exact .inl q
        · exact .inr ⟨g, (i2 g).mpr hg, rfl⟩
    · rw [List.length_append, List.length_map, i3, List.length_cons, Nat.pow_succ]
      omega
theorem nodup_fills {l : List Nat} (h : l.Nodup) : (fills l).Nodup := by
  have := (fills_ok (l := l.reverse) (by rw [List.reverse_reverse]; exact h)).1
  rw [List.reverse_reverse] at this
  exact this
theorem mem_fills {l : List Nat} (h : l.Nodup) (f : List Nat) : f ∈ fills l ↔ f.Sublist l := by
  have := (fills_ok (l := l.reverse) (by rw [List.reverse_reverse]; exact h)).2.1 f
  rw [List.reverse_reverse] at this
  exact this
theorem len_fills {l : List Nat} (h : l.Nodup) : (fills l).length = 2 ^ l.length := by
  have := (fills_ok (l := l.reverse) (by rw [List.reverse_reverse]; exact h)).2.2
  rw [List.reverse_reverse, List.length_reverse] at this
  exact this
end Hc
set_option Elab.async false
set_option linter.all false
namespace Hc
open Vbenag VbenCore
def usedT (t : Nat) : List Nat := (List.range 16).filter fun c => CHECKS.contains c || (TERMCARDS.take t).contains c
theorem used_eq (s : State) : used s = usedT s.terms := rfl
theorem inc_used (s : State) : Inc (used s) := (inc_range 16).filter _
theorem used_lt {s : State} {c : Nat} (h : c ∈ used s) : c < 16 := List.mem_range.mp (List.mem_filter.mp h).1
theorem cardOf_used : ∀ T, T < 12 → ∀ t, t < T → cardOf t ∈ usedT T := by decide
theorem cardOf_lt : ∀ t, t < 11 → cardOf t < 16 := by decide
theorem usedT_len : ∀ t, t < 12 → (usedT t).length = 5 + t := by decide
theorem mem_toggle {l : List Nat} (hl : Inc l) (p x : Nat) :
    x ∈ (if l.contains p = true then l.filter fun x => x != p else sortBy (fun a b => decide (a < b)) (p :: l)) ↔ (if x = p then x ∉ l else x ∈ l) := by
  by_cases hp : p ∈ l
  · rw [if_pos (List.contains_iff_mem.mpr hp), List.mem_filter]
    by_cases e : x = p
    · subst e
      simp [hp]
    · simp [e]
  · rw [if_neg (fun q => hp (List.contains_iff_mem.mp q))]
    rw [show sortBy (fun a b => decide (a < b)) (p :: l) = sortBy ltb (p :: l) from rfl, mem_sortBy (List.nodup_cons.mpr ⟨hp, hl.nodup⟩), List.mem_cons]
    by_cases e : x = p
    · subst e
      simp [hp]
    · simp [e]
theorem inc_toggle {l : List Nat} (hl : Inc l) (p : Nat) : Inc (if l.contains p = true then l.filter fun x => x != p else sortBy (fun a b => decide (a < b)) (p :: l)) := by
  split
  · exact hl.filter _
  · rename_i h
    exact inc_sortBy (List.nodup_cons.mpr ⟨fun q => h (List.contains_iff_mem.mpr q), hl.nodup⟩)
theorem toggled_len (cards : List (List Nat)) (c p : Nat) : (toggled cards c p).length = cards.length := by
  unfold toggled
  exact List.length_set
theorem toggled_ne {cards : List (List Nat)} {c d : Nat} (p : Nat) (h : d ≠ c) : (toggled cards c p).getD d [] = cards.getD d [] := by
  unfold toggled
  simp [List.getD_eq_getElem?_getD, List.getElem?_set_ne (Ne.symm h)]
theorem toggled_at {cards : List (List Nat)} {c : Nat} (p : Nat) (h : c < cards.length) :
    (toggled cards c p).getD c [] = (if (cards.getD c []).contains p = true then (cards.getD c []).filter fun x => x != p else sortBy (fun a b => decide (a < b)) (p :: cards.getD c [])) := by
  unfold toggled
  simp [List.getD_eq_getElem?_getD, List.getElem?_set_self h]
structure Wf (s : State) : Prop where
  t1 : 1 ≤ s.terms
  t11 : s.terms ≤ 11
  p1 : 1 ≤ s.places
  p40 : s.places ≤ 40
  cl : s.cards.length = 16
  inc : ∀ c, Inc (s.cards.getD c [])
  lt : ∀ c, ∀ x ∈ s.cards.getD c [], x < s.places
  lostI : Inc s.lost
  lostU : ∀ c ∈ s.lost, c ∈ used s
  lost4 : s.lost.length ≤ 4
  lostE : ∀ c ∈ s.lost, s.cards.getD c [] = []
  il : s.items.length = s.places
  it : ∀ l, some l ∈ s.items → Inc l ∧ ∀ t ∈ l, t < s.terms
theorem Wf.fresh {t p : Nat} (h1 : 1 ≤ t) (h2 : t ≤ 11) (h3 : 1 ≤ p) (h4 : p ≤ 40) : Wf (Vbenag.fresh t p) := by
  have e : ∀ c, (List.replicate 16 ([] : List Nat)).getD c [] = [] := fun c => by
    rw [List.getD_eq_getElem?_getD, List.getElem?_replicate]
    split <;> rfl
  refine ⟨h1, h2, h3, h4, List.length_replicate, fun c => ?_, fun c x h => ?_, List.Pairwise.nil, (fun _ h => nomatch h), Nat.zero_le _, (fun _ h => nomatch h), List.length_replicate, fun l h => ?_⟩
  · show Inc ((List.replicate 16 ([] : List Nat)).getD c [])
    rw [e]
    exact List.Pairwise.nil
  · have h : x ∈ (List.replicate 16 ([] : List Nat)).getD c [] := h
    rw [e] at h
    nomatch h
  · have := (List.mem_replicate.mp h).2
    cases this
theorem Wf.start : Wf Vbenag.start := Wf.fresh (by decide) (by decide) (by decide) (by decide)
theorem punched_len (p : Nat) : ∀ (cs : List Nat) (cards : List (List Nat)), (punched cards cs p).length = cards.length
  | [], _ => rfl
  | c :: cs, cards => by
    show (punched (toggled cards c p) cs p).length = _
    rw [punched_len p cs, toggled_len]
theorem punched_inc {p P : Nat} (hp : p < P) : ∀ (cs : List Nat) (cards : List (List Nat)), (∀ c, Inc (cards.getD c []) ∧ ∀ x ∈ cards.getD c [], x < P) → ∀ c, Inc ((punched cards cs p).getD c []) ∧ ∀ x ∈ (punched cards cs p).getD c [], x < P
  | [], _, h => h
  | c :: cs, cards, h => by
    refine punched_inc hp cs (toggled cards c p) fun d => ?_
    by_cases e : d = c
    · subst e
      by_cases hl : d < cards.length
      · rw [toggled_at p hl]
        refine ⟨inc_toggle (h d).1 p, fun x hx => ?_⟩
        have := (mem_toggle (h d).1 p x).mp hx
        by_cases e : x = p
        · omega
        · rw [if_neg e] at this
          exact (h d).2 x this
      · have e1 : (toggled cards d p).getD d [] = [] := by
          rw [List.getD_eq_getElem?_getD, List.getElem?_eq_none (by rw [toggled_len]; omega)]
          rfl
        rw [e1]
        exact ⟨List.Pairwise.nil, fun _ q => nomatch q⟩
    · rw [toggled_ne p e]
      exact h d
theorem wordAt_mem {s : State} {p : Nat} {f : List Nat} {c : Nat} : c ∈ wordAt s p f ↔ c ∈ used s ∧ (if s.lost.contains c = true then c ∈ f else isHole s c p = true) := by
  unfold wordAt
  rw [List.mem_filter]
  split <;> simp
theorem rising_inc : ∀ {l : List Int}, rising l = true → l.Pairwise (· < ·)
  | [], _ => List.Pairwise.nil
  | [a], _ => List.pairwise_singleton _ _
  | a :: b :: l, h => by
    have h : (decide (a < b) && rising (b :: l)) = true := h
    rw [Bool.and_eq_true] at h
    have hab : a < b := of_decide_eq_true h.1
    have ih := rising_inc h.2
    refine List.pairwise_cons.mpr ⟨fun x hx => ?_, ih⟩
    rcases List.mem_cons.mp hx with e | hx
    · rw [e]; exact hab
    · have := (List.pairwise_cons.mp ih).1 x hx
      omega
theorem inc_rising : ∀ {l : List Int}, l.Pairwise (· < ·) → rising l = true
  | [], _ => rfl
  | [a], _ => rfl
  | a :: b :: l, h => by
    have h' := List.pairwise_cons.mp h
    show (decide (a < b) && rising (b :: l)) = true
    rw [Bool.and_eq_true]
    exact ⟨decide_eq_true (h'.1 b (List.mem_cons_self ..)), inc_rising h'.2⟩
theorem isTerms_nat {s : State} {l : List Int} (h : isTerms s l = true) : Inc (l.map Int.toNat) ∧ ∀ t ∈ l.map Int.toNat, t < s.terms := by
  unfold isTerms at h
  rw [Bool.and_eq_true] at h
  have hb : ∀ x ∈ l, 0 ≤ x ∧ x ≤ (s.terms : Int) - 1 := fun x hx => by
    have := List.all_eq_true.mp h.2 x hx
    unfold isTerm isBetween at this
    rw [Bool.and_eq_true] at this
    exact ⟨of_decide_eq_true this.1, of_decide_eq_true this.2⟩
  refine ⟨List.pairwise_map.mpr ?_, fun t ht => ?_⟩
  · refine List.Pairwise.imp_of_mem (fun {a b} ha hb' q => ?_) (rising_inc h.1)
    have := hb a ha
    have := hb b hb'
    omega
  · obtain ⟨x, hx, rfl⟩ := List.mem_map.mp ht
    have := hb x hx
    omega
theorem readings_mem {s : State} {p : Nat} {f w : List Nat} (h : (f, w) ∈ readings s p) : f.Sublist s.lost ∧ wrongIn (wordAt s p f) = some w ∧ ∀ c ∈ w, c ∈ used s ∧ c ∉ s.lost := by
  unfold readings at h
  obtain ⟨g, hg, e⟩ := List.mem_filterMap.mp h
  cases q : wrongIn (wordAt s p g) with
  | none => rw [q] at e; cases e
  | some v =>
    rw [q] at e
    have e : (if (v.all fun c => (used s).contains c && !s.lost.contains c) = true then some (g, v) else none) = some (f, w) := e
    split at e
    · rename_i hv
      obtain ⟨e1, e2⟩ := Prod.mk.inj (Option.some.inj e)
      subst e1
      subst e2
      refine ⟨(mem_parts _ _).mp hg, q, fun c hc => ?_⟩
      have := List.all_eq_true.mp hv c hc
      rw [Bool.and_eq_true] at this
      exact ⟨List.contains_iff_mem.mp this.1, by simpa using this.2⟩
    · cases e
theorem readAt_mem {s : State} {p : Nat} {r : List Nat × List Nat} (h : readAt s p = some r) : r ∈ readings s p := by
  unfold readAt at h
  dsimp only at h
  split at h
  · rename_i q l e
    cases h
    split at e
    · rw [e]; exact List.mem_cons_self ..
    · exact (List.mem_filter.mp (by rw [e]; exact List.mem_cons_self ..)).1
  · cases h
theorem getD_map_range {α : Type} (f : Nat → α) (d : α) (n c : Nat) : ((List.range n).map f).getD c d = if c < n then f c else d := by
  rw [List.getD_eq_getElem?_getD, List.getElem?_map]
  split
  · rename_i h
    rw [List.getElem?_range h]
    rfl
  · rename_i h
    rw [List.getElem?_eq_none (by rw [List.length_range]; omega)]
    rfl
theorem Wf.step {s : State} (h : Wf s) (c : List (List Int)) : Wf (Vbenag.step s c).1 := by
  unfold Vbenag.step
  cases q : decode c with
  | none => exact h
  | some d =>
    show Wf (if inRange s d = false then (s, [-1]) else act s d).1
    split
    · exact h
    · rename_i hr
      have hr : inRange s d = true := by
        cases e : inRange s d with
        | true => rfl
        | false => exact absurd e hr
      have hno : ∀ n, Wf (no s n).1 := fun n => h
      have hon : ∀ ts f, Wf f.1 → Wf (onCards s ts f).1 := fun ts f hf => by
        unfold onCards
        split
        · exact h
        · exact hf
      cases d with
      | file t p =>
        have hr : (isBetween t 1 11 && isBetween p 1 40) = true := hr
        unfold isBetween at hr
        simp only [Bool.and_eq_true, decide_eq_true_eq] at hr
        exact Wf.fresh (by omega) (by omega) (by omega) (by omega)
      | item p l =>
        have hr : (isPlace s p && isTerms s l) = true := hr
        rw [Bool.and_eq_true] at hr
        have hp : p.toNat < s.places := by
          have := hr.1
          unfold isPlace isBetween at this
          rw [Bool.and_eq_true] at this
          have := of_decide_eq_true this.1
          have := of_decide_eq_true (‹_ ∧ _›).2
          omega
        have ht := isTerms_nat hr.2
        show Wf (if (s.items.getD p.toNat none).isSome = true then no s 4 else if s.lost.isEmpty = false then no s 5 else _).1
        split
        · exact h
        · split
          · exact h
          · rename_i hl
            have hl : s.lost = [] := by
              cases e : s.lost with
              | nil => rfl
              | cons a b => rw [e] at hl; exact absurd rfl hl
            have hP := punched_inc hp (holesFor (l.map Int.toNat)) s.cards fun c => ⟨h.inc c, h.lt c⟩
            refine ⟨h.t1, h.t11, h.p1, h.p40, ?_, fun c => (hP c).1, fun c => (hP c).2, h.lostI, h.lostU, h.lost4, fun c hc => ?_, ?_, fun m hm => ?_⟩
            · show (punched s.cards _ _).length = 16
              rw [punched_len]; exact h.cl
            · have hc : c ∈ s.lost := hc
              rw [hl] at hc
              nomatch hc
            · show (s.items.set _ _).length = s.places
              rw [List.length_set]; exact h.il
            · rcases List.mem_or_eq_of_mem_set hm with z | z
              · exact h.it m z
              · cases z
                exact ht
      | light l => exact hon _ _ h
      | found l => exact h
      | term t => exact hon _ _ h
      | itemCard p => exact h
      | check c =>
        show Wf (if s.lost.contains c.toNat = true then no s 5 else _).1
        split <;> exact h
      | toggle c p =>
        have hr : (isCard s c && isPlace s p) = true := hr
        rw [Bool.and_eq_true] at hr
        have hp : p.toNat < s.places := by
          have := hr.2
          unfold isPlace isBetween at this
          rw [Bool.and_eq_true] at this
          have := of_decide_eq_true this.1
          have := of_decide_eq_true (‹_ ∧ _›).2
          omega
        show Wf (if s.lost.contains c.toNat = true then no s 5 else _).1
        split
        · exact h
        · rename_i hc
          have hP := punched_inc hp [c.toNat] s.cards fun c => ⟨h.inc c, h.lt c⟩
          refine ⟨h.t1, h.t11, h.p1, h.p40, ?_, fun c => (hP c).1, fun c => (hP c).2, h.lostI, h.lostU, h.lost4, fun d hd => ?_, h.il, h.it⟩
          · show (toggled s.cards _ _).length = 16
            rw [toggled_len]; exact h.cl
          · show (toggled s.cards _ _).getD d [] = []
            have : d ≠ c.toNat := fun e => hc (List.contains_iff_mem.mpr (by rw [← e]; exact hd))
            rw [toggled_ne _ this]
            exact h.lostE d hd
      | lose c =>
        have hr : (decide (0 ≤ c) && (used s).contains c.toNat) = true := hr
        rw [Bool.and_eq_true] at hr
        have hcu : c.toNat ∈ used s := List.contains_iff_mem.mp hr.2
        show Wf (if s.lost.contains c.toNat = true then no s 5 else if LOST ≤ s.lost.length then no s 3 else _).1
        split
        · exact h
        · rename_i hc
          have hc : c.toNat ∉ s.lost := fun q => hc (List.contains_iff_mem.mpr q)
          have hn : (c.toNat :: s.lost).Nodup := List.nodup_cons.mpr ⟨hc, h.lostI.nodup⟩
          split
          · exact h
          · rename_i h4
            have h4 : ¬ 4 ≤ s.lost.length := h4
            have cd : ∀ d, (s.cards.set c.toNat []).getD d [] = if d = c.toNat then [] else s.cards.getD d [] := fun d => by
              by_cases e : d = c.toNat
              · subst e
                rw [if_pos rfl, List.getD_eq_getElem?_getD]
                by_cases hl : c.toNat < s.cards.length
                · rw [List.getElem?_set_self hl]; rfl
                · rw [List.getElem?_eq_none (by rw [List.length_set]; omega)]; rfl
              · rw [if_neg e, List.getD_eq_getElem?_getD, List.getElem?_set_ne (Ne.symm e), ← List.getD_eq_getElem?_getD]
            refine ⟨h.t1, h.t11, h.p1, h.p40, ?_, fun d => ?_, fun d => ?_, inc_sortBy hn, fun d hd => ?_, ?_, fun d hd => ?_, h.il, h.it⟩
            · show (s.cards.set _ _).length = 16
              rw [List.length_set]; exact h.cl
            · show Inc ((s.cards.set _ _).getD d [])
              rw [cd]
              split
              · exact List.Pairwise.nil
              · exact h.inc d
            · show ∀ x ∈ (s.cards.set _ _).getD d [], x < s.places
              rw [cd]
              split
              · intro x hx; nomatch hx
              · exact h.lt d
            · rcases List.mem_cons.mp ((mem_sortBy hn d).mp hd) with e | hd
              · rw [e]; exact hcu
              · exact h.lostU d hd
            · show (sortBy ltb (c.toNat :: s.lost)).length ≤ 4
              rw [len_sortBy hn, List.length_cons]
              omega
            · show (s.cards.set _ _).getD d [] = []
              rw [cd]
              split
              · rfl
              · rename_i e
                rcases List.mem_cons.mp ((mem_sortBy hn d).mp hd) with e' | hd
                · exact absurd e' e
                · exact h.lostE d hd
      | unread => exact h
      | wrong => exact h
      | mend =>
        refine ⟨h.t1, h.t11, h.p1, h.p40, ?_, fun c => ?_, fun c x hx => ?_, List.Pairwise.nil, (fun _ q => nomatch q), Nat.zero_le _, (fun _ q => nomatch q), h.il, h.it⟩
        · show ((List.range 16).map (mendedCard s)).length = 16
          rw [List.length_map, List.length_range]
        · show Inc (((List.range 16).map (mendedCard s)).getD c [])
          rw [getD_map_range]
          split
          · exact (inc_range _).filter _
          · exact List.Pairwise.nil
        · have hx : x ∈ ((List.range 16).map (mendedCard s)).getD c [] := hx
          rw [getD_map_range] at hx
          split at hx
          · exact List.mem_range.mp (List.mem_filter.mp hx).1
          · nomatch hx
      | unlike => exact h
      | anew t => exact h
      | common l => exact hon _ _ h
      | closed l => exact hon _ _ h
      | alone p => exact hon _ _ h
      | concepts => exact hon _ _ h
      | further l => exact hon _ _ h
      | counts => exact h
      | clear => exact Wf.start
end Hc
set_option Elab.async false
set_option linter.all false
namespace Hc
open Vbenag VbenCore
def mk (l : List Nat) : Nat := l.foldl (fun m c => m ^^^ (16 + c)) 0
theorem mk_fold (l : List Nat) : ∀ a : Nat, l.foldl (fun m c => m ^^^ (16 + c)) a = a ^^^ mk l := by
  induction l with
  | nil => intro a; exact (Nat.xor_zero a).symm
  | cons c l ih =>
    intro a
    show l.foldl _ (a ^^^ (16 + c)) = a ^^^ (l.foldl _ (0 ^^^ (16 + c)))
    rw [ih, ih, Nat.zero_xor, Nat.xor_assoc]
theorem mk_cons (c : Nat) (l : List Nat) : mk (c :: l) = (16 + c) ^^^ mk l := by
  show l.foldl _ (0 ^^^ (16 + c)) = _
  rw [mk_fold, Nat.zero_xor]
theorem mk_one (c : Nat) : mk [c] = 16 + c := by
  rw [mk_cons]
  exact Nat.xor_zero _
theorem mk_snoc (l : List Nat) (c : Nat) : mk (l ++ [c]) = mk l ^^^ (16 + c) := by
  unfold mk
  rw [List.foldl_append]
  rfl
theorem mk_split (q r : Nat → Bool) : ∀ l : List Nat, mk (l.filter fun c => q c != r c) = mk (l.filter q) ^^^ mk (l.filter r)
  | [] => (Nat.xor_self 0).symm
  | c :: l => by
    have ih := mk_split q r l
    have comm3 : ∀ x y z : Nat, x ^^^ (y ^^^ z) = y ^^^ (x ^^^ z) := fun x y z => by rw [← Nat.xor_assoc, Nat.xor_comm x y, Nat.xor_assoc]
    rw [List.filter_cons, List.filter_cons, List.filter_cons]
    cases q c <;> cases r c
    · exact ih
    · show mk (c :: l.filter _) = mk (l.filter q) ^^^ mk (c :: l.filter r)
      rw [mk_cons, mk_cons, ih]
      exact comm3 _ _ _
    · show mk (c :: l.filter _) = mk (c :: l.filter q) ^^^ mk (l.filter r)
      rw [mk_cons, mk_cons, ih, Nat.xor_assoc]
    · show mk (l.filter _) = mk (c :: l.filter q) ^^^ mk (c :: l.filter r)
      rw [mk_cons, mk_cons, ih, Nat.xor_assoc, comm3 _ (16 + c), ← Nat.xor_assoc (16 + c), Nat.xor_self, Nat.zero_xor]
theorem mixed_step : ∀ b, b < 2 → ∀ a, a < 16 → ∀ c, c < 16 → (16 * b + a) ^^^ (16 + c) = 16 * ((b + 1) % 2) + mixed a c ∧ mixed a c < 16 := by decide +kernel
theorem mk_mixed_fold : ∀ (l : List Nat) (b a : Nat), b < 2 → a < 16 → (∀ c ∈ l, c < 16) →
    l.foldl (fun m c => m ^^^ (16 + c)) (16 * b + a) = 16 * ((b + l.length) % 2) + l.foldl mixed a ∧ l.foldl mixed a < 16
  | [], b, a, hb, ha, _ => ⟨by show 16 * b + a = 16 * ((b + 0) % 2) + a; omega, ha⟩
  | c :: l, b, a, hb, ha, hl => by
    obtain ⟨e, hm⟩ := mixed_step b hb a ha c (hl c (List.mem_cons_self ..))
    obtain ⟨r1, r2⟩ := mk_mixed_fold l ((b + 1) % 2) (mixed a c) (Nat.mod_lt _ (by decide)) hm fun d hd => hl d (List.mem_cons_of_mem _ hd)
    refine ⟨?_, r2⟩
    show l.foldl _ ((16 * b + a) ^^^ (16 + c)) = 16 * ((b + (l.length + 1)) % 2) + l.foldl mixed (mixed a c)
    rw [e, r1]
    have : ((b + 1) % 2 + l.length) % 2 = (b + (l.length + 1)) % 2 := by omega
    rw [this]
theorem mk_mixed {l : List Nat} (hl : ∀ c ∈ l, c < 16) : mk l = 16 * (l.length % 2) + mixedAll l ∧ mixedAll l < 16 := by
  obtain ⟨h1, h2⟩ := mk_mixed_fold l 0 0 (by decide) (by decide) hl
  rw [show (0 + l.length) % 2 = l.length % 2 by rw [Nat.zero_add]] at h1
  exact ⟨h1, h2⟩
theorem wrongIn_nil {l : List Nat} (hl : ∀ c ∈ l, c < 16) : wrongIn l = some [] ↔ mk l = 0 := by
  obtain ⟨e, h⟩ := mk_mixed hl
  have key : wrongIn l = if (l.length % 2 == 1) = true then some [mixedAll l] else if mixedAll l = 0 then some [] else none := rfl
  rw [key, e]
  rcases Nat.mod_two_eq_zero_or_one l.length with q | q
  · rw [q]
    by_cases z : mixedAll l = 0
    · simp [z]
    · simp [z]
  · rw [q]
    simp
theorem wrongIn_one {l : List Nat} (hl : ∀ c ∈ l, c < 16) (m : Nat) : wrongIn l = some [m] ↔ mk l = 16 + m ∧ m < 16 := by
  obtain ⟨e, h⟩ := mk_mixed hl
  have key : wrongIn l = if (l.length % 2 == 1) = true then some [mixedAll l] else if mixedAll l = 0 then some [] else none := rfl
  rw [key, e]
  rcases Nat.mod_two_eq_zero_or_one l.length with q | q
  · rw [q]
    by_cases z : mixedAll l = 0
    · simp [z]
      omega
    · simp [z]
      omega
  · rw [q]
    simp
    omega
theorem wrongIn_shape {l w : List Nat} (h : wrongIn l = some w) : w = [] ∨ ∃ m, w = [m] := by
  have key : wrongIn l = if (l.length % 2 == 1) = true then some [mixedAll l] else if mixedAll l = 0 then some [] else none := rfl
  rw [key] at h
  split at h
  · exact .inr ⟨_, (Option.some.inj h).symm⟩
  · split at h
    · exact .inl (Option.some.inj h).symm
    · cases h
def holesAt (s : State) (p : Nat) : List Nat := (used s).filter fun c => isHole s c p
theorem inc_sub {f l : List Nat} (h : f.Sublist l) (hl : Inc l) : Inc f := List.Pairwise.sublist h hl
theorem filt_sub {l f : List Nat} (hl : Inc l) (hf : Inc f) (h : ∀ c ∈ f, c ∈ l) : l.filter (fun c => f.contains c) = f :=
  inc_ext (hl.filter _) hf fun x => by
    rw [List.mem_filter]
    constructor
    · rintro ⟨_, q⟩
      exact List.contains_iff_mem.mp q
    · intro q
      exact ⟨h x q, List.contains_iff_mem.mpr q⟩
theorem mk_word {s : State} (h : Wf s) (p : Nat) {f : List Nat} (hf : f.Sublist s.lost) : mk (wordAt s p f) = mk (holesAt s p) ^^^ mk f := by
  have e : wordAt s p f = (used s).filter fun c => isHole s c p != f.contains c := by
    unfold wordAt
    refine List.filter_congr fun c hc => ?_
    by_cases q : c ∈ s.lost
    · rw [if_pos (List.contains_iff_mem.mpr q)]
      have : isHole s c p = false := by
        unfold isHole
        rw [h.lostE c q]
        rfl
      rw [this]
      cases f.contains c <;> rfl
    · rw [if_neg (fun z => q (List.contains_iff_mem.mp z))]
      have : f.contains c = false := by
        cases z : f.contains c with
        | false => rfl
        | true => exact absurd (hf.subset (List.contains_iff_mem.mp z)) q
      rw [this]
      cases isHole s c p <;> rfl
  rw [e, mk_split, filt_sub (inc_used s) (inc_sub hf h.lostI) fun c hc => h.lostU c (hf.subset hc)]
  rfl
theorem word_lt {s : State} {p : Nat} {f : List Nat} : ∀ c ∈ wordAt s p f, c < 16 := fun c hc => used_lt (List.mem_filter.mp hc).1
def kept (s : State) : List Nat := (used s).filter fun c => !s.lost.contains c
def waysN (s : State) (m : Nat) : List (Option Nat × List Nat) := ((fills s.lost).filter fun f => mk f == m).map fun f => (none, f)
def waysW (s : State) (m : Nat) : List (Option Nat × List Nat) := (kept s).flatMap fun c => ((fills s.lost).filter fun f => mk f == m ^^^ (16 + c)).map fun f => (some c, f)
def ways (s : State) (m : Nat) : List (Option Nat × List Nat) := if (waysN s m).isEmpty = true then waysW s m else waysN s m
def back : Option Nat × List Nat → List Nat × List Nat := fun x => (x.2, x.1.toList)
theorem readings_iff {s : State} {p : Nat} {f w : List Nat} : (f, w) ∈ readings s p ↔ f.Sublist s.lost ∧ wrongIn (wordAt s p f) = some w ∧ ∀ c ∈ w, c ∈ used s ∧ c ∉ s.lost := by
  constructor
  · exact readings_mem
  · rintro ⟨h1, h2, h3⟩
    unfold readings
    refine List.mem_filterMap.mpr ⟨f, (mem_parts _ _).mpr h1, ?_⟩
    rw [h2]
    show (if (w.all fun c => (used s).contains c && !s.lost.contains c) = true then some (f, w) else none) = some (f, w)
    rw [if_pos]
    refine List.all_eq_true.mpr fun c hc => ?_
    rw [Bool.and_eq_true]
    exact ⟨List.contains_iff_mem.mpr (h3 c hc).1, by simpa using (h3 c hc).2⟩
theorem nodup_readings {s : State} (h : Wf s) (p : Nat) : (readings s p).Nodup := by
  unfold readings
  refine List.Pairwise.filterMap _ (fun a a' ne b hb b' hb' e => ?_) (nodup_parts h.lostI.nodup)
  have key : ∀ (a : List Nat) (b : List Nat × List Nat), (match wrongIn (wordAt s p a) with
      | none => none
      | some w => if (w.all fun c => (used s).contains c && !s.lost.contains c) = true then some (a, w) else none) = some b → b.1 = a := by
    intro a b q
    cases z : wrongIn (wordAt s p a) with
    | none => rw [z] at q; cases q
    | some w =>
      rw [z] at q
      have q : (if (w.all fun c => (used s).contains c && !s.lost.contains c) = true then some (a, w) else none) = some b := q
      split at q
      · rw [← Option.some.inj q]
      · cases q
  exact ne ((key a b hb).symm.trans ((congrArg Prod.fst e).trans (key a' b' hb')))
theorem mem_waysN {s : State} (h : Wf s) {m : Nat} {x : Option Nat × List Nat} : x ∈ waysN s m ↔ x.1 = none ∧ x.2.Sublist s.lost ∧ mk x.2 = m := by
  unfold waysN
  rw [List.mem_map]
  constructor
  · rintro ⟨f, hf, rfl⟩
    have := List.mem_filter.mp hf
    exact ⟨rfl, (mem_fills h.lostI.nodup f).mp this.1, eq_of_beq this.2⟩
  · rintro ⟨h1, h2, h3⟩
    obtain ⟨a, b⟩ := x
    cases h1
    exact ⟨b, List.mem_filter.mpr ⟨(mem_fills h.lostI.nodup b).mpr h2, beq_iff_eq.mpr h3⟩, rfl⟩
theorem mem_waysW {s : State} (h : Wf s) {m : Nat} {x : Option Nat × List Nat} : x ∈ waysW s m ↔ ∃ c, x.1 = some c ∧ c ∈ used s ∧ c ∉ s.lost ∧ x.2.Sublist s.lost ∧ mk x.2 = m ^^^ (16 + c) := by
  unfold waysW
  rw [List.mem_flatMap]
  constructor
  · rintro ⟨c, hc, hx⟩
    obtain ⟨f, hf, rfl⟩ := List.mem_map.mp hx
    have := List.mem_filter.mp hf
    have hk := List.mem_filter.mp hc
    exact ⟨c, rfl, hk.1, by simpa using hk.2, (mem_fills h.lostI.nodup f).mp this.1, eq_of_beq this.2⟩
  · rintro ⟨c, h1, h2, h3, h4, h5⟩
    obtain ⟨a, b⟩ := x
    cases h1
    exact ⟨c, List.mem_filter.mpr ⟨h2, by simpa using h3⟩, List.mem_map.mpr ⟨b, List.mem_filter.mpr ⟨(mem_fills h.lostI.nodup b).mpr h4, beq_iff_eq.mpr h5⟩, rfl⟩⟩
theorem nodup_waysN {s : State} (h : Wf s) (m : Nat) : (waysN s m).Nodup :=
  List.pairwise_map.mpr (List.Pairwise.imp (fun {x y} q e => q (Prod.mk.inj e).2) (List.Pairwise.sublist List.filter_sublist (nodup_fills h.lostI.nodup)))
theorem nodup_waysW {s : State} (h : Wf s) (m : Nat) : (waysW s m).Nodup := by
  refine List.pairwise_flatMap.mpr ⟨fun c _ => List.pairwise_map.mpr (List.Pairwise.imp (fun {x y} q e => q (Prod.mk.inj e).2) (List.Pairwise.sublist List.filter_sublist (nodup_fills h.lostI.nodup))), ?_⟩
  refine List.Pairwise.imp (fun {a b} q x hx y hy e => ?_) ((inc_used s).filter fun c => !s.lost.contains c)
  obtain ⟨f, _, rfl⟩ := List.mem_map.mp hx
  obtain ⟨g, _, rfl⟩ := List.mem_map.mp hy
  have := Option.some.inj (Prod.mk.inj e).1
  omega
theorem xor_move {a b c : Nat} : a ^^^ b = c ↔ b = a ^^^ c := by
  constructor
  · rintro rfl
    rw [← Nat.xor_assoc, Nat.xor_self, Nat.zero_xor]
  · rintro rfl
    rw [← Nat.xor_assoc, Nat.xor_self, Nat.zero_xor]
theorem back_inj {x y : Option Nat × List Nat} (h : back x = back y) : x = y := by
  obtain ⟨a, b⟩ := x
  obtain ⟨c, d⟩ := y
  have h1 : b = d := (Prod.mk.inj h).1
  have h2 : a.toList = c.toList := (Prod.mk.inj h).2
  subst h1
  cases a with
  | none =>
    cases c with
    | none => rfl
    | some c => cases h2
  | some a =>
    cases c with
    | none => cases h2
    | some c =>
      have : a = c := (List.cons.inj h2).1
      rw [this]
theorem nodup_back {l : List (Option Nat × List Nat)} (h : l.Nodup) : (l.map back).Nodup := List.pairwise_map.mpr (List.Pairwise.imp (fun {x y} q e => q (back_inj e)) h)
theorem none_mem {s : State} (h : Wf s) (p : Nat) (r : List Nat × List Nat) : r ∈ (readings s p).filter (fun r => r.2.isEmpty) ↔ r ∈ (waysN s (mk (holesAt s p))).map back := by
  obtain ⟨f, w⟩ := r
  rw [List.mem_filter, readings_iff, List.mem_map]
  constructor
  · rintro ⟨⟨h1, h2, _⟩, he⟩
    have he : w = [] := List.isEmpty_iff.mp he
    subst he
    have e := (wrongIn_nil word_lt).mp h2
    rw [mk_word h p h1, xor_move, Nat.xor_zero] at e
    exact ⟨(none, f), (mem_waysN h).mpr ⟨rfl, h1, e⟩, rfl⟩
  · rintro ⟨x, hx, e⟩
    obtain ⟨h1, h2, h3⟩ := (mem_waysN h).mp hx
    obtain ⟨a, b⟩ := x
    have h1 : a = none := h1
    subst h1
    obtain ⟨e1, e2⟩ := Prod.mk.inj e
    have e1 : b = f := e1
    have e2 : [] = w := e2
    subst e1
    subst e2
    refine ⟨⟨h2, (wrongIn_nil word_lt).mpr ?_, (fun c q => nomatch q)⟩, rfl⟩
    rw [mk_word h p h2, xor_move, Nat.xor_zero]
    exact h3
theorem some_mem {s : State} (h : Wf s) (p : Nat) (he : ((readings s p).filter (fun r => r.2.isEmpty)).isEmpty = true) (r : List Nat × List Nat) : r ∈ readings s p ↔ r ∈ (waysW s (mk (holesAt s p))).map back := by
  obtain ⟨f, w⟩ := r
  rw [List.mem_map]
  constructor
  · intro hr
    obtain ⟨h1, h2, h3⟩ := readings_iff.mp hr
    rcases wrongIn_shape h2 with rfl | ⟨m, rfl⟩
    · have : (f, []) ∈ (readings s p).filter (fun r => r.2.isEmpty) := List.mem_filter.mpr ⟨hr, rfl⟩
      rw [List.isEmpty_iff.mp he] at this
      nomatch this
    · have e := ((wrongIn_one word_lt m).mp h2).1
      rw [mk_word h p h1, xor_move] at e
      exact ⟨(some m, f), (mem_waysW h).mpr ⟨m, rfl, (h3 m (List.mem_cons_self ..)).1, (h3 m (List.mem_cons_self ..)).2, h1, e⟩, rfl⟩
  · rintro ⟨x, hx, e⟩
    obtain ⟨c, h1, h2, h3, h4, h5⟩ := (mem_waysW h).mp hx
    obtain ⟨a, b⟩ := x
    have h1 : a = some c := h1
    subst h1
    obtain ⟨e1, e2⟩ := Prod.mk.inj e
    have e1 : b = f := e1
    have e2 : [c] = w := e2
    subst e1
    subst e2
    refine readings_iff.mpr ⟨h4, (wrongIn_one word_lt c).mpr ⟨?_, used_lt h2⟩, fun d hd => ?_⟩
    · rw [mk_word h p h4, xor_move]
      exact h5
    · rw [List.mem_singleton.mp hd]
      exact ⟨h2, h3⟩
theorem readAt_ways {s : State} (h : Wf s) (p : Nat) : readAt s p = (only (ways s (mk (holesAt s p)))).map back := by
  have e0 : readAt s p = only (if ((readings s p).filter (fun r => r.2.isEmpty)).isEmpty = true then readings s p else (readings s p).filter (fun r => r.2.isEmpty)) := by
    unfold readAt
    dsimp only
    split
    · rename_i r l e
      rw [e]
      rfl
    · rename_i l ne
      match hq : (if ((readings s p).filter (fun r => r.2.isEmpty)).isEmpty = true then readings s p else (readings s p).filter (fun r => r.2.isEmpty)), ne with
      | [], _ => rfl
      | [r], ne => exact absurd rfl (ne r)
      | _ :: _ :: _, _ => rfl
  have hem : ((readings s p).filter (fun r => r.2.isEmpty)).isEmpty = (waysN s (mk (holesAt s p))).isEmpty := by
    rw [Bool.eq_iff_iff, List.isEmpty_iff, List.isEmpty_iff]
    constructor
    · intro q
      cases z : waysN s (mk (holesAt s p)) with
      | nil => rfl
      | cons a l =>
        have := (none_mem h p (back a)).mpr (List.mem_map.mpr ⟨a, by rw [z]; exact List.mem_cons_self .., rfl⟩)
        rw [q] at this
        nomatch this
    · intro q
      cases z : (readings s p).filter (fun r => r.2.isEmpty) with
      | nil => rfl
      | cons a l =>
        have := (none_mem h p a).mp (by rw [z]; exact List.mem_cons_self ..)
        rw [q] at this
        nomatch this
  rw [e0, ← only_map]
  unfold ways
  rw [hem]
  by_cases q : (waysN s (mk (holesAt s p))).isEmpty = true
  · rw [if_pos q, if_pos q]
    exact only_of (nodup_readings h p) (nodup_back (nodup_waysW h _)) (some_mem h p (hem.trans q))
  · rw [if_neg q, if_neg q]
    exact only_of (List.Pairwise.sublist List.filter_sublist (nodup_readings h p)) (nodup_back (nodup_waysN h _)) (none_mem h p)
end Hc
set_option Elab.async false
set_option linter.all false
namespace Hc
open Vbenag VbenCore
theorem ways_in {s : State} (h : Wf s) {m : Nat} {x : Option Nat × List Nat} (hx : x ∈ ways s m) : x.2.Sublist s.lost ∧ ∀ c, x.1 = some c → c ∈ used s ∧ c ∉ s.lost := by
  unfold ways at hx
  split at hx
  · obtain ⟨c, h1, h2, h3, h4, _⟩ := (mem_waysW h).mp hx
    exact ⟨h4, fun d hd => by rw [h1] at hd; cases hd; exact ⟨h2, h3⟩⟩
  · obtain ⟨h1, h2, _⟩ := (mem_waysN h).mp hx
    exact ⟨h2, fun d hd => by rw [h1] at hd; cases hd⟩
theorem only_in {α : Type} {l : List α} {x : α} (h : only l = some x) : x ∈ l := by
  rw [only_some h]
  exact List.mem_cons_self ..
theorem hole_mended {s : State} (h : Wf s) {c p : Nat} (hc : c ∈ used s) (hp : p < s.places) :
    isHole (mended s) c p = (match only (ways s (mk (holesAt s p))) with
      | none => isHole s c p
      | some x => if s.lost.contains c = true then x.2.contains c else (isHole s c p != (x.1 == some c))) := by
  have hc16 := used_lt hc
  have e0 : isHole (mended s) c p = (mendedCard s c).contains p := by
    show (((List.range 16).map (mendedCard s)).getD c []).contains p = _
    rw [getD_map_range, if_pos hc16]
  have e1 : (mendedCard s c).contains p = (match readAt s p with
      | none => !s.lost.contains c && isHole s c p
      | some r => (wordAt s p r.1).contains c != r.2.contains c) := by
    rw [Bool.eq_iff_iff, List.contains_iff_mem]
    unfold mendedCard
    rw [List.mem_filter, List.mem_range]
    exact ⟨fun q => q.2, fun q => ⟨hp, q⟩⟩
  rw [e0, e1, readAt_ways h]
  have lostNo : s.lost.contains c = true → isHole s c p = false := fun q => by
    unfold isHole
    rw [h.lostE c (List.contains_iff_mem.mp q)]
    rfl
  cases e : only (ways s (mk (holesAt s p))) with
  | none =>
    show (!s.lost.contains c && isHole s c p) = isHole s c p
    cases q : s.lost.contains c with
    | true => rw [lostNo q]; rfl
    | false => rfl
  | some x =>
    show ((wordAt s p x.2).contains c != x.1.toList.contains c) = if s.lost.contains c = true then x.2.contains c else (isHole s c p != (x.1 == some c))
    obtain ⟨h1, h2⟩ := ways_in h (only_in e)
    have ew : (wordAt s p x.2).contains c = if s.lost.contains c = true then x.2.contains c else isHole s c p := by
      rw [Bool.eq_iff_iff, List.contains_iff_mem, wordAt_mem]
      split
      · rw [List.contains_iff_mem]
        exact ⟨fun q => q.2, fun q => ⟨hc, q⟩⟩
      · exact ⟨fun q => q.2, fun q => ⟨hc, q⟩⟩
    have el : x.1.toList.contains c = (x.1 == some c) := by
      cases x.1 with
      | none => rfl
      | some d =>
        show ([d].contains c) = (some d == some c)
        rw [Bool.eq_iff_iff, List.contains_iff_mem, List.mem_singleton, beq_iff_eq]
        exact ⟨fun q => by rw [q], fun q => (Option.some.inj q).symm⟩
    rw [ew, el]
    by_cases q : s.lost.contains c = true
    · rw [if_pos q, if_pos q]
      have : (x.1 == some c) = false := by
        cases z : x.1 with
        | none => rfl
        | some d =>
          cases w : (some d == some c) with
          | false => rfl
          | true =>
            have := (h2 d z).2
            rw [Option.some.inj (beq_iff_eq.mp w)] at this
            exact absurd (List.contains_iff_mem.mp q) this
      rw [this]
      cases x.2.contains c <;> rfl
    · rw [if_neg q, if_neg q]
end Hc
set_option Elab.async false
set_option linter.all false
namespace Hc
open Vbenag VbenCore
theorem setsOf_filter (q : Nat → Bool) : ∀ (k : Nat) (l : List Nat), setsOf k (l.filter q) = (setsOf k l).filter fun s => s.all q
  | 0, l => by
    rw [setsOf_zero, setsOf_zero]
    rfl
  | k + 1, [] => rfl
  | k + 1, a :: l => by
    show setsOf (k + 1) ((a :: l).filter q) = ((setsOf k l).map (fun s => a :: s) ++ setsOf (k + 1) l).filter fun s => s.all q
    rw [List.filter_append, List.filter_map, List.filter_cons, ← setsOf_filter q (k + 1) l]
    cases h : q a with
    | true =>
      rw [if_pos rfl]
      show (setsOf k (l.filter q)).map (fun s => a :: s) ++ setsOf (k + 1) (l.filter q) = _
      congr 1
      rw [setsOf_filter q k l]
      congr 1
      refine List.filter_congr fun s _ => ?_
      show s.all q = (a :: s).all q
      rw [List.all_cons, h, Bool.true_and]
    | false =>
      rw [if_neg Bool.false_ne_true]
      have : (setsOf k l).filter ((fun s => s.all q) ∘ fun s => a :: s) = [] := List.filter_eq_nil_iff.mpr fun s _ => by
        show ¬ (a :: s).all q = true
        rw [List.all_cons, h, Bool.false_and]
        exact Bool.false_ne_true
      rw [this]
      rfl
theorem setsOf_long {k : Nat} {l : List Nat} (h : l.length < k) : setsOf k l = [] := by
  cases e : setsOf k l with
  | nil => rfl
  | cons f t =>
    have := (mem_setsOf k l f).mp (by rw [e]; exact List.mem_cons_self ..)
    have := this.1.length_le
    omega
theorem flat_range {α : Type} (f : Nat → List α) : ∀ {n m : Nat}, n ≤ m → (∀ k, n ≤ k → f k = []) → (List.range m).flatMap f = (List.range n).flatMap f
  | n, 0, h, _ => by
    have : n = 0 := by omega
    subst this
    rfl
  | n, m + 1, h, hf => by
    by_cases e : n = m + 1
    · rw [e]
    · rw [List.range_succ, List.flatMap_append, flat_range f (show n ≤ m by omega) hf, List.flatMap_cons, List.flatMap_nil, hf m (by omega)]
      rw [List.append_nil, List.append_nil]
theorem parts_filter (q : Nat → Bool) (l : List Nat) : parts (l.filter q) = (parts l).filter fun s => s.all q := by
  have hl : (l.filter q).length ≤ l.length := List.length_filter_le _ _
  have e1 : parts (l.filter q) = (List.range (l.length + 1)).flatMap fun k => setsOf k (l.filter q) := by
    unfold parts
    exact (flat_range (fun k => setsOf k (l.filter q)) (by omega) fun k hk => setsOf_long (by omega)).symm
  rw [e1]
  unfold parts
  rw [List.filter_flatMap]
  congr 1
  funext k
  exact setsOf_filter q k l
theorem find_filter {α : Type} (q p : α → Bool) : ∀ l : List α, (∀ x ∈ l, p x = true → q x = true) → (l.filter q).find? p = l.find? p
  | [], _ => rfl
  | a :: l, h => by
    have ih := find_filter q p l fun x hx => h x (List.mem_cons_of_mem _ hx)
    rw [List.filter_cons]
    cases hq : q a with
    | true =>
      rw [if_pos rfl, List.find?_cons, List.find?_cons, ih]
    | false =>
      rw [if_neg Bool.false_ne_true, ih, List.find?_cons]
      cases hp : p a with
      | false => rfl
      | true =>
        have := h a (List.mem_cons_self ..) hp
        rw [hq] at this
        cases this
theorem common_one (s : State) (p : Nat) : common s [p] = (List.range s.terms).filter fun t => isHole s (cardOf t) p := by
  unfold common
  refine List.filter_congr fun t _ => ?_
  rw [List.all_cons, List.all_nil, Bool.and_true]
theorem alone_all (s : State) (p : Nat) : alone s p = (parts (List.range s.terms)).find? fun ts => light s ts == [p] := by
  unfold alone
  rw [common_one, parts_filter]
  refine find_filter _ _ _ fun ts hts h => ?_
  have e : light s ts = [p] := eq_of_beq h
  have hp : p ∈ light s ts := by rw [e]; exact List.mem_cons_self ..
  unfold light at hp
  exact (List.mem_filter.mp hp).2
theorem nodup_perm {α : Type} [DecidableEq α] : ∀ {l m : List α}, l.Nodup → m.Nodup → (∀ x, x ∈ l ↔ x ∈ m) → l.Perm m
  | [], m, _, _, h => by
    cases m with
    | nil => exact List.Perm.refl _
    | cons a m => exact absurd ((h a).mpr (List.mem_cons_self ..)) List.not_mem_nil
  | a :: l, m, hl, hm, h => by
    have ha : a ∈ m := (h a).mp (List.mem_cons_self ..)
    have hl' := List.nodup_cons.mp hl
    have p := List.perm_cons_erase ha
    have hme : (a :: m.erase a).Nodup := p.nodup_iff.mp hm
    have hme' := List.nodup_cons.mp hme
    refine List.Perm.trans ((nodup_perm hl'.2 hme'.2 fun x => ?_).cons a) p.symm
    constructor
    · intro hx
      have : x ∈ a :: m.erase a := p.mem_iff.mp ((h x).mp (List.mem_cons_of_mem _ hx))
      rcases List.mem_cons.mp this with e | e
      · rw [e] at hx; exact absurd hx hl'.1
      · exact e
    · intro hx
      have : x ∈ a :: l := (h x).mpr (p.mem_iff.mpr (List.mem_cons_of_mem _ hx))
      rcases List.mem_cons.mp this with e | e
      · rw [e] at hx; exact absurd hx hme'.1
      · exact e
end Hc
set_option Elab.async false
set_option linter.all false
set_option maxRecDepth 100000
set_option maxHeartbeats 4000000
namespace Hc
open PySem PySem.Spec PyProof.Rows L2
theorem same_upd {H H1 : Hp} {D : Addr} {o : HO} (s : Same H H1) (h : H D = none) : Same H (upd H1 D o) := fun b u e => by
  rw [upd_ne (ne_of_none e h)]
  exact s b u e
theorem same_new {H : Hp} {D : Addr} {o : HO} (h : H D = none) : Same H (upd H D o) := same_upd (Same.refl H) h
section
variable {X : Cx} {x : Str} {pos : Pos}
theorem pe_gref {a : Addr} (hg : Gl X x) (hm : X.mg x = some (.ref a)) (hd : (x == ("__debug__" : Str)) = false := by decide) : PE X (.Name x pos) (tC (.ref a)) := pe_glob (v := .ref a) hg hm rfl hd
theorem pe_gint {i : Int} {t : Tok} (hg : Gl X x) (hm : X.mg x = some (.int i t)) (hd : (x == ("__debug__" : Str)) = false := by decide) : PE X (.Name x pos) (tC (.int i)) := pe_glob (v := .int i) hg hm ⟨t, rfl⟩ hd
end
theorem len_filt_take {α : Type} (l : List α) (p : α → Bool) (i : Nat) : ((l.take i).filter p).length ≤ l.length :=
  Nat.le_trans (List.length_filter_le _ _) (by rw [List.length_take]; exact Nat.min_le_right _ _)
theorem take_succ_of {α : Type} : ∀ {l : List α} {i : Nat} {x : α}, l[i]? = some x → l.take (i + 1) = l.take i ++ [x]
  | [], i, x, h => by simp at h
  | a :: l, 0, x, h => by
    have e : a = x := Option.some.inj h
    subst e
    rfl
  | a :: l, i + 1, x, h => by
    have ih := take_succ_of (l := l) (i := i) (x := x) h
    show a :: l.take (i + 1) = a :: l.take i ++ [x]
    rw [ih]
    rfl
theorem get_map {α β : Type} {l : List α} {g : α → β} {i : Nat} {y : β} (h : (l.map g)[i]? = some y) : ∃ x, l[i]? = some x ∧ y = g x := by
  rw [List.getElem?_map] at h
  cases e : l[i]? with
  | none => rw [e] at h; cases h
  | some x => rw [e] at h; exact ⟨x, rfl, (Option.some.inj h).symm⟩
theorem wipe_back {σ : L2.St} {i : Nat} {v : Option V} : wipe ((wipe σ [i]).set i v) [i] = wipe σ [i] := by
  show ((σ.set i none).set i v).set i none = σ.set i none
  rw [List.set_set, List.set_set]
section
variable {α : Type} {K : PySem.W.Frag} {i : Nat} {tt : TT} {te : TE} {σ : L2.St} {H : Hp} {Q : VK}
def LcOk (l : List α) (g : α → V) (p : α → Bool) (f : α → V) (i : Nat) (tt : TT) (te : TE) (σ : L2.St) (H1 : Hp) (Q : VK) : Prop :=
  l.length < 1000 ∧ (∀ x ∈ l, ∀ H2 R, Same H1 H2 → (∀ H3, Same H2 H3 → R (p x) H3) → tt ((wipe σ [i]).set i (some (g x))) H2 R) ∧
  (∀ x ∈ l, p x = true → ∀ H2 R, Same H1 H2 → (∀ H3, Same H2 H3 → R (f x) H3) → te ((wipe σ [i]).set i (some (g x))) H2 R) ∧
  ∀ D H2, H1 D = none → Same H1 H2 → H2 D = some (.lst ((l.filter p).map f)) → Q (.ref D) H2
theorem lc_turn {l : List α} {g : α → V} {p : α → Bool} {f : α → V} {H1 H' : Hp} {D : Addr} {k : Nat} {x : α} (h : LcOk l g p f i tt te σ H1 Q) (hD : H1 D = none) (hx : l[k]? = some x)
    (hP : Same H1 H' ∧ H' D = some (.lst (((l.take k).filter p).map f))) :
    gName i (g x) (wipe σ [i]) H' fun σ2 H2 => wipe σ2 [i] = wipe σ [i] ∧ tt σ2 H2 fun b H3 =>
      if b = true then te σ2 H3 fun y H4 => ∃ acc, H4 D = some (.lst acc) ∧ acc.length < sizeLine ∧ (Same H1 (upd H4 D (.lst (acc ++ [y]))) ∧ upd H4 D (.lst (acc ++ [y])) D = some (.lst (((l.take (k + 1)).filter p).map f)))
      else (Same H1 H3 ∧ H3 D = some (.lst (((l.take (k + 1)).filter p).map f))) := by
  obtain ⟨h1, h2, h3, h4⟩ := h
  have mx : x ∈ l := List.mem_of_getElem? hx
  refine ⟨wipe_back, h2 x mx H' _ hP.1 fun H3 s3 => ?_⟩
  have e1 : (l.take (k + 1)).filter p = (l.take k).filter p ++ (if p x = true then [x] else []) := by
    rw [take_succ_of hx, List.filter_append, List.filter_cons, List.filter_nil]
  by_cases q : p x = true
  · rw [q]
    refine iteT (h3 x mx q H3 _ (hP.1.trans s3) fun H4 s4 => ⟨_, s4 _ _ (s3 _ _ hP.2), ?_, ?_, ?_⟩)
    · rw [List.length_map]
      exact small1000 (Nat.le_trans (len_filt_take l p k) (Nat.le_of_lt h1))
    · exact same_upd (hP.1.trans (s3.trans s4)) hD
    · rw [upd_same, e1, if_pos q, List.map_append]
      rfl
  · rw [Bool.eq_false_iff.mpr q]
    refine iteF ⟨hP.1.trans s3, ?_⟩
    rw [e1, if_neg q, List.append_nil]
    exact s3 _ _ hP.2
theorem lcL (l : List α) (g : α → V) (p : α → Bool) (f : α → V) {a : Addr} {H1 : Hp} (hq : SqL K H1 a (l.map g)) (hk : LcOk l g p f i tt te σ H1 Q) : tLc (iList K (tC (.ref a))) (gName i) tt te [i] σ H1 Q := by
  refine ⟨a, rfl, ⟨_, hq⟩, fun D hD => ?_⟩
  refine lc_list (K := K) (a := a) (xs := l.map g) (Qd := fun H => Q (.ref D) H) (fun k H' => Same H1 H' ∧ H' D = some (.lst (((l.take k).filter p).map f))) ⟨same_new hD, upd_same⟩ (fun k H' _ hP => hP.1.seq hq) (fun k y H' hy hP => ?_) fun H' hP => ?_
  · obtain ⟨x, hx, rfl⟩ := get_map hy
    exact lc_turn hk hD hx hP
  · rw [List.length_map, List.take_length] at hP
    exact hk.2.2.2 D H' hD hP.1 hP.2
theorem lcT (l : List α) (g : α → V) (p : α → Bool) (f : α → V) {a : Addr} {H1 : Hp} (hq : ∀ H2, Same H1 H2 → SqT K H2 a (l.map g)) (hk : LcOk l g p f i tt te σ H1 Q) : tLc (iTup K (tC (.ref a))) (gName i) tt te [i] σ H1 Q := by
  refine ⟨a, rfl, ⟨_, hq H1 (Same.refl _)⟩, fun D hD => ?_⟩
  refine lc_tup (K := K) (a := a) (xs := l.map g) (Qd := fun H => Q (.ref D) H) (fun k H' => Same H1 H' ∧ H' D = some (.lst (((l.take k).filter p).map f))) ⟨same_new hD, upd_same⟩ (fun k H' _ hP => hq H' hP.1) (fun k y H' hy hP => ?_) fun H' hP => ?_
  · obtain ⟨x, hx, rfl⟩ := get_map hy
    exact lc_turn hk hD hx hP
  · rw [List.length_map, List.take_length] at hP
    exact hk.2.2.2 D H' hD hP.1 hP.2
theorem lcR (n : Nat) (p : Nat → Bool) (f : Nat → V) {H1 : Hp} (hk : LcOk (List.range n) (fun k => V.int (k : Int)) p f i tt te σ H1 Q) : tLc (iRng1 (tCons (tC (.int (n : Int))) tNil)) (gName i) tt te [i] σ H1 Q := by
  have hn : n < 1000 := by
    have := hk.1
    rw [List.length_range] at this
    exact this
  refine ⟨_, rfl, by omega, by omega, fun D hD => ?_⟩
  rw [show ((n : Int)).toNat = n from rfl]
  refine lc_range (lo := 0) (n := n) (Qd := fun H => Q (.ref D) H) (fun k H' => Same H1 H' ∧ H' D = some (.lst ((((List.range n).take k).filter p).map f))) ⟨same_new hD, upd_same⟩ (fun k H' hk' hP => ?_) fun H' hP => ?_
  · have e : (0 : Int) + (k : Int) = (k : Int) := by omega
    rw [e]
    exact lc_turn hk hD (List.getElem?_range hk') hP
  · have e : (List.range n).take n = List.range n := by
      have := List.take_length (l := List.range n)
      rw [List.length_range] at this
      exact this
    rw [e] at hP
    exact hk.2.2.2 D H' hD hP.1 hP.2
end
section
variable {D : Ends} {σ : L2.St} {H : Hp} {Q : VK}
theorem tRet_i {te : TE} (h : te σ H D.rt) : tRet te D σ H := h
theorem tSet_i {te : TE} {i : Nat} {u : TS} (h : te σ H fun x H1 => u D (σ.set i (some x)) H1) : tSeq (tAsg te (gName i)) u D σ H := h
theorem tIf_i {c : TT} {t u : TS} (h : c σ H fun b H1 => if b = true then t { D with nx := u D } σ H1 else u D σ H1) : tSeq (tIfS c t tNext) u D σ H := h
theorem tNext_i {f : L2.St → Hp → Prop} {rt : VK} {bk ct : L2.St → Hp → Prop} (h : f σ H) : tNext ⟨f, rt, bk, ct⟩ σ H := h
theorem tSeq_i {t u : TS} (h : t { D with nx := u D } σ H) : tSeq t u D σ H := h
theorem tAsg_i {te : TE} {g : TG} (h : te σ H fun x H1 => g x σ H1 D.nx) : tAsg te g D σ H := h
theorem tDrop_i {te : TE} (h : te σ H fun _ H1 => D.nx σ H1) : tDrop te D σ H := h
theorem tOp_i {r : R2} {ta tb : TE} (h : ta σ H fun x H1 => tb σ H1 fun y H2 => r x y H2 Q) : tOp r ta tb σ H Q := h
theorem tCB1_i {r : List V → Hp → VK → Prop} {te : TE} (h : te σ H fun x H1 => r [x] H1 Q) : tCB r (tCons te tNil) σ H Q := h
theorem tB_i {t : TE} {R : Bool → Hp → Prop} (h : t σ H fun x H' => ∃ k, x = .bl k ∧ R k H') : tB t σ H R := h
theorem tCall1_i {sp : Sp} {E : XK} {te : TE} (h : te σ H fun x H1 => sp [x] H1 Q E) : tCall sp [] E (tCons te tNil) σ H Q := h
theorem tCall2_i {sp : Sp} {E : XK} {te tf : TE} (h : te σ H fun x H1 => tf σ H1 fun y H2 => sp [x, y] H2 Q E) : tCall sp [] E (tCons te (tCons tf tNil)) σ H Q := h
theorem tBM1_i {K : PySem.W.Frag} {T : String} {r : V → List V → Hp → VK → Prop} {to te : TE} (h : to σ H fun x H1 => tyV K T x H1 ∧ te σ H1 fun y H2 => r x [y] H2 Q) : tBM K T r to (tCons te tNil) σ H Q := h
theorem tVar_i {j : Nat} {v : V} (hv : σ[j]? = some (some v)) (h : Q v H) : tVar j σ H Q := ⟨v, hv, h⟩
end
section
variable {α : Type} {K : PySem.W.Frag} {i j : Nat} {tt : TT} {te : TE} {σ : L2.St} {H : Hp} {Q : VK} {a : Addr}
theorem lcLv (l : List α) (g : α → V) (p : α → Bool) (f : α → V) (hv : σ[j]? = some (some (.ref a))) (hq : SqL K H a (l.map g)) (hk : LcOk l g p f i tt te σ H Q) : tLc (iList K (tVar j)) (gName i) tt te [i] σ H Q :=
  ⟨_, hv, lcL l g p f hq hk⟩
theorem lcLf {f' : Str} {C dx b : Addr} {fs : List (Str × V)} (l : List α) (g : α → V) (p : α → Bool) (f : α → V) (hv : σ[j]? = some (some (.ref b))) (ho : H b = some (.ins C dx fs)) (c : Cls K C) (n : NoAttr K C f') (hf : fs.lookup f' = some (.ref a)) (hq : SqL K H a (l.map g))
    (hk : LcOk l g p f i tt te σ H Q) : tLc (iList K (tFld K (tVar j) f')) (gName i) tt te [i] σ H Q := ⟨_, hv, b, C, dx, fs, _, rfl, ho, c, n, hf, lcL l g p f hq hk⟩
end
end Hc
set_option Elab.async false
set_option linter.all false
set_option maxRecDepth 100000
set_option maxHeartbeats 4000000
namespace Hc
open PySem PySem.Spec PyProof.Rows L2
open PySem.W (Codec)
def top (i : Nat) : Stmt := PySem.Challenge.pw_holecards_s01_answers.main.body.getD i (.Pass ⟨0, 0, 0, 0⟩)
abbrev s_split_calls : Stmt := top 2
abbrev s_card_of : Stmt := top 7
abbrev s_cards_for : Stmt := top 8
abbrev s_stands_oddly : Stmt := top 9
abbrev s_item_holes : Stmt := top 10
abbrev s_are_rising_below : Stmt := top 12
abbrev m___init__ : Stmt := inClass (top 13) 0
abbrev m_begin : Stmt := inClass (top 13) 1
abbrev m_set_up : Stmt := inClass (top 13) 2
abbrev m_is_term : Stmt := inClass (top 13) 3
abbrev m_is_place : Stmt := inClass (top 13) 4
abbrev m_is_card : Stmt := inClass (top 13) 5
abbrev m_are_terms : Stmt := inClass (top 13) 6
abbrev m_are_places : Stmt := inClass (top 13) 7
abbrev m_terms : Stmt := inClass (top 13) 8
abbrev m_places : Stmt := inClass (top 13) 9
abbrev m_is_lost : Stmt := inClass (top 13) 10
abbrev m_lacks_a_term : Stmt := inClass (top 13) 11
abbrev m_lost_cards : Stmt := inClass (top 13) 12
abbrev m_kept_cards : Stmt := inClass (top 13) 13
abbrev m_has_hole : Stmt := inClass (top 13) 14
abbrev m_places_of : Stmt := inClass (top 13) 15
abbrev m_cards_at : Stmt := inClass (top 13) 16
abbrev m_turn_hole : Stmt := inClass (top 13) 17
abbrev m_take_out : Stmt := inClass (top 13) 18
abbrev m_have_all_cards : Stmt := inClass (top 13) 19
abbrev m_item_count : Stmt := inClass (top 13) 20
abbrev m_item_has : Stmt := inClass (top 13) 21
abbrev s_mark_of : Stmt := top 15
abbrev s_fillings_by_mark : Stmt := top 16
abbrev s_ways_to_read : Stmt := top 17
abbrev s_read_places : Stmt := top 18
abbrev s_counted : Stmt := top 24
abbrev s_paired : Stmt := top 25
abbrev s_set_up_file : Stmt := top 30
abbrev s_enter_item : Stmt := top 31
abbrev s_toggle_hole : Stmt := top 32
abbrev s_lose_card : Stmt := top 33
abbrev s_mend_cards : Stmt := top 34
abbrev s_mend_place : Stmt := top 35
abbrev s_clear_file : Stmt := top 36
abbrev s_still_shining : Stmt := top 38
abbrev s_shining_places : Stmt := top 39
abbrev s_common_terms : Stmt := top 40
abbrev s_closed_terms : Stmt := top 41
abbrev s_one_term_more : Stmt := top 42
abbrev s_first_set_alone : Stmt := top 43
abbrev s_count_concepts : Stmt := top 44
abbrev s_places_that_shine : Stmt := top 46
abbrev s_places_found : Stmt := top 47
abbrev s_holes_of_term : Stmt := top 48
abbrev s_holes_of_card : Stmt := top 49
abbrev s_item_card_at : Stmt := top 50
abbrev s_places_unread : Stmt := top 51
abbrev s_wrong_holes : Stmt := top 52
abbrev s_holes_unlike_item_cards : Stmt := top 53
abbrev s_holes_by_item_cards : Stmt := top 54
abbrev s_how_many_of_each : Stmt := top 55
abbrev s_terms_in_common : Stmt := top 57
abbrev s_terms_closed : Stmt := top 58
abbrev s_terms_for_one_place : Stmt := top 59
abbrev s_how_many_concepts : Stmt := top 60
abbrev s_places_with_one_term_more : Stmt := top 61
abbrev s_answers : Stmt := top 63
abbrev s_answer_call : Stmt := top 64
abbrev s_answer_question : Stmt := top 65
abbrev s_answer_of_all_terms : Stmt := top 66
structure MOk (P : Program) (w : World) (K : PySem.W.Frag) (mg : Str → Option Value) (base : Heap) (C : Addr) (m : Str) (k : Nat) (ps : List Str) (sp : Sp) : Prop where
  ex : ∃ f fd, Meth K C m f ∧ Binds K fd ps [] ∧ FnOk P w K mg base CX0 k f fd ps sp
structure GOk (P : Program) (w : World) (K : PySem.W.Frag) (mg : Str → Option Value) (base : Heap) (x : Str) (k : Nat) (ps : List Str) (sp : Sp) : Prop where
  ex : ∃ f fd, mg x = some (.ref f) ∧ PySem.W.keepIn K (.ref f) = true ∧ Binds K fd ps [] ∧ FnOk P w K mg base CX0 k f fd ps sp
section
variable {X : Cx} {C : Addr} {m x : Str} {k : Nat} {ps : List Str} {sp : Sp} {o e : Expr} {es : List Expr} {ta : TE} {t : TA} {p pos apos : Pos}
theorem pe_m {pl : Sem Bool} (M : MOk X.prog X.w X.K X.mg X.base C m k ps sp) (c : Cls X.K C) (hr : Room k X.A) (he : PE X o ta) (ha : PA X (e :: es) t)
    (hst : starEach (e :: es) X.env = (false, eval e X.env) :: starEach es X.env := by rfl) (hpl : (backTo pos (starEach es X.env)).any (·.1) = false := by rfl)
    (ht : eval (.Call (.Attribute o m apos) (e :: es) [] pos) X.env = (do
      let ov ← eval o X.env
      standAt apos.atName
      let (f, first) ← holding [ov] (getMethod ov m pl)
      callWith pos f first (backTo pos (starEach (e :: es) X.env)) (backToKw pos (keywordEach [] X.env))) := by rfl) :
    PE X (.Call (.Attribute o m apos) (e :: es) [] pos) (tMeth C m sp [] E0 ta t) := by
  obtain ⟨f, fd, h1, h2, h3⟩ := M.ex
  exact pe_meth he c h1 h3 hr h2 .nil pass0 ha hst hpl ht
theorem pe_m0 {pl : Sem Bool} (M : MOk X.prog X.w X.K X.mg X.base C m k ps sp) (c : Cls X.K C) (hr : Room k X.A) (he : PE X o ta)
    (ht : eval (.Call (.Attribute o m apos) [] [] pos) X.env = (do
      let ov ← eval o X.env
      standAt apos.atName
      let (f, first) ← holding [ov] (getMethod ov m pl)
      callWith pos f first (backTo pos (starEach [] X.env)) (backToKw pos (keywordEach [] X.env))) := by rfl) :
    PE X (.Call (.Attribute o m apos) [] [] pos) (tMeth C m sp [] E0 ta tNil) := by
  obtain ⟨f, fd, h1, h2, h3⟩ := M.ex
  exact pe_meth0 he c h1 h3 hr h2 .nil pass0 ht
theorem pe_g (G : GOk X.prog X.w X.K X.mg X.base x k ps sp) (hr : Room k X.A) (hg : Gl X x) (ha : PA X (e :: es) t)
    (hdb : (x == ("__debug__" : Str)) = false := by decide) (he : starEach (e :: es) X.env = (false, eval e X.env) :: starEach es X.env := by rfl) (hpl : (backTo pos (starEach es X.env)).any (·.1) = false := by rfl) :
    PE X (.Call (.Name x p) (e :: es) [] pos) (tCall sp [] E0 t) := by
  obtain ⟨f, fd, h1, h2, h3, h4⟩ := G.ex
  exact pe_call h4 hr hg h1 h2 h3 .nil pass0 ha hdb he hpl
end
def nV (n : Nat) : V := .int (n : Int)
def fileF (T P : Nat) (hc hh hi hl : Addr) : List (Str × V) :=
  [("term_count", nV T), ("place_count", nV P), ("cards", .ref hc), ("holes", .ref hh), ("item_cards", .ref hi), ("lost", .ref hl)]
structure Lay where
  dx : Addr
  hc : Addr
  hh : Addr
  hi : Addr
  hl : Addr
  rows : List Addr
  cells : List (Option Addr)
  los : List Nat
def cellV : Option Addr → V
  | none => .non
  | some a => .ref a
def keyN (c : Nat) : Key := Sum.inl ((c : Nat) : Int)
theorem keyN_inj {a b : Nat} (h : keyN a = keyN b) : a = b := by
  have := Sum.inl.inj h
  omega
def holesD (cs : List Nat) (rows : List Addr) : List (Key × V) := (cs.zip rows).map fun x => (keyN x.1, V.ref x.2)
def lostD (los : List Nat) : List (Key × V) := los.map fun c => (keyN c, V.bl true)
def rowV (s : Vbenag.State) (c : Nat) : List V := (List.range s.places).map fun p => V.bl (Vbenag.isHole s c p)
structure FileG (C : Addr) (H : Hp) (a : Addr) (y : Lay) (s : Vbenag.State) (ls : List Nat) : Prop where
  wf : Wf s
  obj : H a = some (.ins C y.dx (fileF s.terms s.places y.hc y.hh y.hi y.hl))
  cards : H y.hc = some (.lst ((Vbenag.used s).map nV))
  holes : H y.hh = some (.dK (holesD (Vbenag.used s) y.rows))
  rlen : y.rows.length = (Vbenag.used s).length
  row : ∀ (i c : Nat) (r : Addr), (Vbenag.used s)[i]? = some c → y.rows[i]? = some r → H r = some (.lst (rowV s c))
  rnd : y.rows.Nodup
  items : H y.hi = some (.lst (y.cells.map cellV))
  clen : y.cells.length = s.places
  cellN : ∀ (p : Nat), y.cells[p]? = some none → s.items[p]? = some none
  cellS : ∀ (p : Nat) (b : Addr), y.cells[p]? = some (some b) → ∃ l, s.items[p]? = some (some l) ∧ H b = some (.lst (l.map nV))
  lost : H y.hl = some (.dK (lostD y.los))
  losP : y.los.Perm ls
abbrev FileAt (C : Addr) (H : Hp) (a : Addr) (y : Lay) (s : Vbenag.State) : Prop := FileG C H a y s s.lost
structure Txt (K : PySem.W.Frag) (mg : Str → Option Value) (C : Addr) (tc pc : Addr) : Prop where
  cl : Cls K C
  nT : NoAttr K C "term_count"
  nP : NoAttr K C "place_count"
  nC : NoAttr K C "cards"
  nH : NoAttr K C "holes"
  nI : NoAttr K C "item_cards"
  nL : NoAttr K C "lost"
  mgC : mg "CardFile" = some (.ref C)
  mgT : mg "TERM_CARDS" = some (.ref tc)
  tcs : ∀ H, SqT K H tc (Vbenag.TERMCARDS.map nV)
  mgP : mg "PART_CARDS" = some (.ref pc)
  pcs : ∀ H, SqT K H pc ([1, 2, 4, 8].map nV)
  range : mg "range" = none
  len : mg "len" = none
  sorted : mg "sorted" = none
  any : mg "any" = none
  all : mg "all" = none
  list : mg "list" = none
  even : ∃ t, mg "EVEN_CARD" = some (.int 0 t)
  i1 : ∃ t, mg "NOT_AS_TOLD" = some (.int (-1) t)
  i3 : ∃ t, mg "FOUR_ARE_LOST" = some (.int (-3) t)
  i4 : ∃ t, mg "PLACE_IS_TAKEN" = some (.int (-4) t)
  i5 : ∃ t, mg "CARD_IS_LOST" = some (.int (-5) t)
  mt : ∃ t, mg "MOST_TERMS" = some (.int 11 t)
  mp : ∃ t, mg "MOST_PLACES" = some (.int 40 t)
  ml : ∃ t, mg "MOST_LOST" = some (.int 4 t)
theorem fileF_no {T P : Nat} {hc hh hi hl : Addr} {m : Str} (h : ∀ x ∈ (["term_count", "place_count", "cards", "holes", "item_cards", "lost"] : List Str), m ≠ x) : (fileF T P hc hh hi hl).lookup m = none := by
  have q : ∀ x ∈ (["term_count", "place_count", "cards", "holes", "item_cards", "lost"] : List Str), (m == x) = false := fun x hx => beq_eq_false_iff_ne.mpr (h x hx)
  unfold fileF
  simp only [List.lookup, q _ (List.mem_cons_self ..), q "place_count" (by simp), q "cards" (by simp), q "holes" (by simp), q "item_cards" (by simp), q "lost" (by simp)]
theorem valV_lost : ∀ (los : List Nat) (c : Nat), valV (lostD los) (keyN c) = if c ∈ los then some (.bl true) else none
  | [], _ => rfl
  | d :: los, c => by
    by_cases e : d = c
    · subst e
      rw [if_pos (List.mem_cons_self ..)]
      exact valV_pos rfl
    · have : valV (lostD (d :: los)) (keyN c) = valV (lostD los) (keyN c) := valV_neg (fun q => e (keyN_inj q))
      rw [this, valV_lost los c]
      by_cases q : c ∈ los
      · rw [if_pos q, if_pos (List.mem_cons_of_mem _ q)]
      · rw [if_neg q, if_neg fun z => (List.mem_cons.mp z).elim (fun z => e z.symm) q]
theorem valV_holes : ∀ {cs : List Nat} {rows : List Addr} {i c : Nat} {r : Addr}, cs.Nodup → cs[i]? = some c → rows[i]? = some r → valV (holesD cs rows) (keyN c) = some (.ref r)
  | [], _, _, _, _, _, h, _ => by simp at h
  | _ :: _, [], _, _, _, _, _, h => by simp at h
  | d :: cs, q :: rows, 0, c, r, _, h1, h2 => by
    have e1 : d = c := Option.some.inj h1
    have e2 : q = r := Option.some.inj h2
    subst e1
    subst e2
    exact valV_pos rfl
  | d :: cs, q :: rows, i + 1, c, r, hn, h1, h2 => by
    have hn' := List.nodup_cons.mp hn
    have h1 : cs[i]? = some c := h1
    have : valV (holesD (d :: cs) (q :: rows)) (keyN c) = valV (holesD cs rows) (keyN c) := valV_neg (fun z => hn'.1 (by rw [keyN_inj (show keyN d = keyN c from z)]; exact List.mem_of_getElem? h1))
    rw [this]
    exact valV_holes hn'.2 h1 h2
theorem holes_no : ∀ {cs : List Nat} {rows : List Addr} {c : Nat}, c ∉ cs → valV (holesD cs rows) (keyN c) = none
  | [], _, _, _ => rfl
  | _ :: _, [], _, _ => rfl
  | d :: cs, q :: rows, c, h => by
    have : valV (holesD (d :: cs) (q :: rows)) (keyN c) = valV (holesD cs rows) (keyN c) := valV_neg (fun z => h (by rw [keyN_inj (show keyN d = keyN c from z)]; exact List.mem_cons_self ..))
    rw [this]
    exact holes_no fun z => h (List.mem_cons_of_mem _ z)
theorem holes_snoc {cs : List Nat} {rows : List Addr} {c : Nat} {r : Addr} (hl : rows.length = cs.length) : holesD (cs ++ [c]) (rows ++ [r]) = holesD cs rows ++ [(keyN c, .ref r)] := by
  unfold holesD
  rw [List.zip_append hl.symm, List.map_append]
  rfl
theorem putK_cons {κ : Type} [DecidableEq κ] {p : κ × V} {r : List (κ × V)} {k : κ} {v : V} (ne : ¬ p.1 = k) : putK (p :: r) k v = p :: putK r k v := by
  unfold putK
  simp only [List.any_cons, decide_eq_false ne, Bool.false_or, List.map_cons, if_neg ne]
  split <;> rfl
theorem putK_head {κ : Type} [DecidableEq κ] {p : κ × V} {r : List (κ × V)} {k : κ} {v : V} (e : p.1 = k) (hn : ∀ q ∈ r, ¬ q.1 = k) : putK (p :: r) k v = (k, v) :: r := by
  unfold putK
  simp only [List.any_cons, decide_eq_true e, Bool.true_or, if_true, List.map_cons, if_pos e]
  have : r.map (fun kv => if kv.1 = k then (kv.1, v) else kv) = r := by
    conv => rhs; rw [← List.map_id r]
    exact List.map_congr_left fun q hq => by rw [if_neg (hn q hq)]; rfl
  rw [this, e]
theorem holes_put : ∀ {cs : List Nat} {rows : List Addr} {i c : Nat} {r : Addr}, cs.Nodup → rows.length = cs.length → cs[i]? = some c → putK (holesD cs rows) (keyN c) (.ref r) = holesD cs (rows.set i r)
  | [], _, _, _, _, _, _, h => by simp at h
  | _ :: _, [], _, _, _, _, hl, _ => by simp at hl
  | d :: cs, q :: rows, 0, c, r, hn, hl, h1 => by
    have e1 : d = c := Option.some.inj h1
    subst e1
    have hn' := List.nodup_cons.mp hn
    refine putK_head rfl fun z hz e => ?_
    obtain ⟨⟨a, b⟩, hx, rfl⟩ := List.mem_map.mp hz
    have ea : a = d := keyN_inj e
    subst ea
    exact hn'.1 (List.of_mem_zip hx).1
  | d :: cs, q :: rows, i + 1, c, r, hn, hl, h1 => by
    have hn' := List.nodup_cons.mp hn
    have h1 : cs[i]? = some c := h1
    have ne : ¬ keyN d = keyN c := fun z => hn'.1 (by rw [keyN_inj z]; exact List.mem_of_getElem? h1)
    have hl' : rows.length = cs.length := by simpa using hl
    show putK ((keyN d, .ref q) :: holesD cs rows) (keyN c) (.ref r) = (keyN d, .ref q) :: holesD cs (rows.set i r)
    rw [putK_cons (p := (keyN d, V.ref q)) ne, holes_put hn'.2 hl' h1]
theorem hole_range (s : Vbenag.State) (h : Wf s) (c : Nat) : s.cards.getD c [] = (List.range s.places).filter fun p => Vbenag.isHole s c p :=
  inc_ext (h.inc c) ((inc_range _).filter _) fun x => by
    rw [List.mem_filter, List.mem_range]
    constructor
    · intro q
      exact ⟨h.lt c x q, List.contains_iff_mem.mpr q⟩
    · rintro ⟨_, q⟩
      exact List.contains_iff_mem.mp q
theorem row_len (s : Vbenag.State) (c : Nat) : (rowV s c).length = s.places := by
  unfold rowV
  rw [List.length_map, List.length_range]
theorem row_at {s : Vbenag.State} {c p : Nat} (hp : p < s.places) : (rowV s c)[p]? = some (.bl (Vbenag.isHole s c p)) := by
  unfold rowV
  rw [List.getElem?_map, List.getElem?_range hp]
  rfl
theorem inV_cards (l : List Nat) (n : Int) : inV (.int n) (l.map nV) = (decide (0 ≤ n) && l.contains n.toNat) := by
  induction l with
  | nil =>
    show false = (decide (0 ≤ n) && false)
    rw [Bool.and_false]
  | cons a l ih =>
    have ih : (l.map nV).any (fun y => eqV y (.int n)) = _ := ih
    show (eqV (nV a) (.int n) || (l.map nV).any (fun y => eqV y (.int n))) = _
    rw [ih, List.contains_cons]
    have e : eqV (nV a) (.int n) = (((a : Nat) : Int) == n) := rfl
    rw [e]
    by_cases h0 : 0 ≤ n
    · rw [decide_eq_true h0, Bool.true_and, Bool.true_and]
      congr 1
      rw [Bool.eq_iff_iff, beq_iff_eq, beq_iff_eq]
      omega
    · rw [decide_eq_false h0, Bool.false_and, Bool.false_and, Bool.or_false]
      exact beq_eq_false_iff_ne.mpr (by omega)
theorem flat_nV (l : List Nat) : (l.map nV).all flatV = true := List.all_eq_true.mpr fun x hx => by
  obtain ⟨a, _, rfl⟩ := List.mem_map.mp hx
  rfl
theorem used_len {s : Vbenag.State} (h : Wf s) : (Vbenag.used s).length = 5 + s.terms := usedT_len _ (by have := h.t11; omega)
end Hc
set_option Elab.async false
set_option linter.all false
set_option maxRecDepth 100000
set_option maxHeartbeats 4000000
namespace Hc
open PySem PySem.Spec PyProof.Rows L2
section
variable {X : Cx}
def rSetDef : V → List V → Hp → VK → Prop := fun x vs H Q => ∃ (a : Addr) (kvs : List (Key × V)) (k : Key) (y : V), x = .ref a ∧ vs = [kV k, y] ∧ H a = some (.dK kvs) ∧ kvs.length < sizeLine ∧
  (∀ v, valV kvs k = some v → Q v H) ∧ (valV kvs k = none → Q y (upd H a (.dK (putK kvs k y))))
theorem mt_setdefault : MtR X "dict.setdefault" rSetDef := by
  intro pins s σ H x xs v us Q I rx rv h
  obtain ⟨a, kvs, k, y, rfl, rfl, e, hz, q1, q2⟩ := h
  cases rx
  obtain ⟨u, w', rfl, ru, rw'⟩ := vals2 rv
  obtain ⟨z, hd, vs, rel, dd⟩ := dk_of I.hok e
  have hlen := rel.length
  refine call_meetsIn PySem.F.slot_dict_setdefault dd.typeIs PySem.F.entry_dict_setdefault (PySem.F.args_dict_setdefault_3 _ _ _) (kt_meets_setdefault (mixKind X.prog X.w) a (kV_is ru) hd w')
    ⟨vs, dd, by omega, fun v' hv' => ?_, fun hn h' dd' hs' => ?_⟩
  · have r := rel.val k
    rw [hv'] at r
    cases q : valV kvs k with
    | none => rw [q] at r; exact r.elim
    | some x =>
      rw [q] at r
      exact ⟨x, H, I.tok _, r, q1 x q⟩
  · have r := rel.val k
    rw [hn] at r
    cases q : valV kvs k with
    | some x => rw [q] at r; exact r.elim
    | none =>
      have zl : (putK kvs k y).length ≤ sizeLine := Nat.le_trans (length_putK kvs k y) hz
      obtain ⟨o2, es2, ep2, g2, _⟩ := id dd'
      exact ⟨y, _, d_write (t' := s.toks + 1) I (by rw [e]; trivial) hs' ⟨o2, g2⟩ (dk_new zl hd (rel.put k rw') dd'), rw', q2 q⟩
def rExtendT (K : PySem.W.Frag) : V → List V → Hp → VK → Prop := fun x vs H Q => ∃ l b xs zs, x = .ref l ∧ vs = [.ref b] ∧ H l = some (.lst xs) ∧ SqT K H b zs ∧ xs.length + zs.length ≤ sizeLine ∧ Q .non (upd H l (.lst (xs ++ zs)))
theorem meets_extendT {l b : Addr} {i1 i2 : Array Value} {n1 n2 : Nat} {ob : Obj} (hb : ob.cls = .type "tuple") (hd : ob.data = .seq i2 n2) (hz : i1.size + i2.size ≤ sizeLine) :
    Meets (Builtin.«list.extend» ⟨[.ref l, .ref b], []⟩) (fun _ R s => s.heap.get? l = some { cls := .type "list", data := .seq i1 n1 } ∧ s.heap.get? b = some ob ∧
      R (.ok (.ret .none)) { s with heap := s.heap.update l (Obj.mapSeq fun x => x ++ i2) }) :=
  .of_wp fun prog w A R s h => by
    obtain ⟨h1, h2, h⟩ := h
    have hlong : ¬ ((!i1.isEmpty && Builtin.List.listTooLong (i1.size + i2.size)) = true) := by
      rw [notLongL hz, Bool.and_false]
      exact Bool.false_ne_true
    show wpAny _ _ (Builtin.List.listExtendWith (.ref l) (.ref b) .none) _ _ s
    unfold Builtin.List.listExtendWith
    refine wpAny_bind (wpAny_typeOf (T := "tuple") ⟨ob, h2, hb⟩ ?_)
    rw [if_pos (by
      have : (Value.type "tuple" == Value.type "tuple") = true := by rfl
      rw [this, Bool.or_true])]
    refine wpAny_bind (listItems_at h2 hd ?_)
    refine wpAny_bind (listItems_at h1 rfl ?_)
    rw [if_neg hlong]
    refine wpAny_bind (listUpdate_at h1 rfl ?_ (by omega) (by show (i1 ++ i2).size ≤ _; rw [Array.size_append]; omega))
    exact wpAny_pure ⟨_, rfl, h⟩
theorem mt_extendT : MtM X "list.extend" (rExtendT X.K) := by
  intro pins s σ H x vs v us Q I rx rv h
  obtain ⟨l, b, xs, zs, rfl, rfl, hH, hB, hz, q⟩ := h
  cases rx
  obtain ⟨u, rfl, ru⟩ := vals1 rv
  cases ru
  obtain ⟨z, its, n, r, hl, e⟩ := I.lstM hH
  obtain ⟨its2, r2, ⟨ob, e2, hc2, n2, hd2⟩, z2⟩ := I.tuple hB
  have hl2 := r2.length
  refine call_meets F.slot_list_extend ⟨_, e, rfl⟩ F.entry_list_extend (F.args_list_extend_2 _ _) (meets_extendT (n1 := n) hc2 hd2 (by rw [List.size_toArray, List.size_toArray]; omega)) ⟨e, e2, ?_⟩
  refine ⟨.non, _, I.lset (its' := its ++ its2) hH e (by simp) (r.append r2) ?_, rfl, q⟩
  rw [List.length_append]
  omega
theorem collectT {prog : Program} {w : World} {A : Around} {E : Value → Shared → Prop} {s : Shared} {b : Addr} {us : List Value} {Q : List Value → Shared → Prop} (hb : IsTup s.heap b us.toArray) (hz : us.length ≤ sizeLine)
    (h : Q us { s with heap := (s.heap.push (seqObj "list" #[] 0)).update s.heap.objs.size (Obj.mapSeq (· ++ us.toArray)) }) : wpAny (model prog w) A (collect (.ref b)) Q E s := by
  obtain ⟨ob, e, hc, n, hd⟩ := id hb
  have e2 : (s.heap.push (seqObj "list" #[] 0)).get? b = some ob := Heap.get?_push_of_some _ e
  have e3 : (s.heap.push (seqObj "list" #[] 0)).get? s.heap.objs.size = some (seqObj "list" #[] 0) := Heap.get?_push_size _ rfl
  have hj : (#[] ++ us.toArray : Array Value) = us.toArray := by simp
  unfold collect
  refine wpAny_bind (wpAny_runValue (codeAny_builtin entry_proto_collect' ?_))
  show wpAny _ _ (do again (.builtin "list.__iadd__" ⟨[← newList [], .ref b], []⟩)) _ _ s
  refine wpAny_bind (wpAny_newList (wpAny_pure ⟨Code.quiet_builtin _ (by decide +kernel), codeAny_builtin entry_list_iadd' ?_⟩))
  show wpAny _ _ (Builtin.List.listExtendWith (.ref s.heap.objs.size) (.ref b) (.ref s.heap.objs.size)) _ _ { s with heap := s.heap.push (seqObj "list" #[] 0) }
  unfold Builtin.List.listExtendWith
  refine wpAny_bind (wpAny_typeOf (T := "tuple") ⟨ob, e2, hc⟩ ?_)
  rw [if_pos (by
    have : (Value.type "tuple" == Value.type "tuple") = true := by rfl
    rw [this, Bool.or_true])]
  refine wpAny_bind (listItems_at e2 hd ?_)
  refine wpAny_bind (listItems_at e3 rfl ?_)
  rw [if_neg (by simp)]
  refine wpAny_bind (listUpdate_at e3 rfl ?_ (Nat.zero_le _) (by rw [hj, List.size_toArray]; omega))
  refine wpAny_pure ?_
  show wpAny (model prog w) A (do
      let ob ← load s.heap.objs.size
      match ob.data with
      | .seq zs _ => pure zs.toList
      | _ => unsupported "internal:collect") Q E { s with heap := (s.heap.push (seqObj "list" #[] 0)).update s.heap.objs.size (Obj.mapSeq (· ++ us.toArray)) }
  refine wpAny_bind (wpAny_load (get?_update_seq e3 _) ?_)
  show wpAny _ _ (pure ((#[] : Array Value) ++ us.toArray).toList) Q E _
  rw [hj]
  exact wpAny_pure h
theorem sortedT_ints {prog : Program} {w : World} {A : Around} {E : Value → Shared → Prop} {s : Shared} {b : Addr} {us : List Value} {ns : List Int} {Q : Value → Shared → Prop} (hb : IsTup s.heap b us.toArray) (hI : IntsAre us ns) (h64 : us.length < 64)
    (h : ∀ (out : Array Value) (ms : List Int), IntsAre out.toList ms → ms.Perm ns → ms.Pairwise (· ≤ ·) → Q (.ref (s.heap.objs.size + 1)) { s with heap := sortedAll s.heap us out }) :
    wpAny (model prog w) A (call (.builtin "sorted") [.ref b]) Q E s := by
  refine Calls.call_function_entry kind_sorted plain_sorted entry_sorted (args_sorted1 _) ?_
  unfold Builtin.«sorted»
  refine wpAny_bind (m := checkCount "sorted" 1 1 _) (wpAny_pure ?_)
  refine wpAny_bind (collectT hb (small64 h64) ?_)
  refine wpAny_bind (wpAny_newList ?_)
  have hn : ((s.heap.push (seqObj "list" #[] 0)).update s.heap.objs.size (Obj.mapSeq (· ++ us.toArray))).objs.size = s.heap.objs.size + 1 := by rw [Heap.size_update, size_push']
  have hL : (((s.heap.push (seqObj "list" #[] 0)).update s.heap.objs.size (Obj.mapSeq (· ++ us.toArray))).push (seqObj "list" us.toArray 0)).get? (s.heap.objs.size + 1) = some (seqObj "list" us.toArray 0) := by
    rw [← hn]
    exact Heap.get?_push_size _ rfl
  show wpAny _ _ _ _ _ { s with heap := ((s.heap.push (seqObj "list" #[] 0)).update s.heap.objs.size (Obj.mapSeq (· ++ us.toArray))).push (seqObj "list" us.toArray 0) }
  rw [hn]
  refine wpAny_bind (wpAny_holding (wpAny_call_entry slot_list_sort ⟨_, hL, rfl⟩ entry_list_sort (list_sort_tree hL hI h64 fun out ms b1 b2 b3 => ⟨_, rfl, ?_⟩) (args_list_sort _)))
  exact wpAny_pure ⟨_, rfl, h out ms b1 b2 b3⟩
def rSortedT (K : PySem.W.Frag) : List V → Hp → VK → Prop := fun vs H Q => ∃ (a : Addr) (ns : List Int), vs = [V.ref a] ∧ SqT K H a (ns.map V.int) ∧ ns.length < 64 ∧
  ∀ (ns' : List Int) (p : Addr), ns'.Perm ns → ns'.Pairwise (· ≤ ·) → H p = none → Q (.ref p) (upd H p (.lst (ns'.map V.int)))
theorem cr_sortedT : CallR X (.builtin "sorted") (rSortedT X.K) := by
  intro pins s σ H vs us Q I r h
  obtain ⟨a, ns, rfl, hs, h64, q⟩ := h
  obtain ⟨its, rv, ht, _⟩ := I.tuple hs
  rw [Vals.ref1 r]
  have hi := rv.ints
  refine sortedT_ints ht hi (by rw [hi.length]; exact h64) fun out ns' h1 h2 h3 => ?_
  obtain ⟨ep, he'⟩ := PyProof.Rows.sortedAll_at s.heap its out
  have hlen : (ns'.map V.int).length ≤ sizeLine := by rw [List.length_map, h2.length_eq]; exact small64 h64
  exact ⟨.ref _, upd H (s.heap.objs.size + 1) (.lst (ns'.map V.int)), I.laid (t' := s.toks) (fun _ _ => PyProof.Rows.sortedAll_old) (Nat.le_succ _) ⟨hlen, out.toList, ep, vals_of_ints h1, he'⟩, rfl, q ns' _ h2 h3 (I.hok.fresh (Nat.le_succ _))⟩
end
end Hc
set_option Elab.async false
set_option linter.all false
set_option maxRecDepth 100000
set_option maxHeartbeats 4000000
namespace Hc
open PySem PySem.Spec PyProof.Rows L2
section
variable {prog : Program} {w : World} {A : Around} {E : Value → Shared → Prop} {s : Shared}
open HT
theorem getItem_tuple_whole {t sl : Addr} {items : Array Value} {vl vu : Value} {lo hi : Option Int} {Q : Value → Shared → Prop} (ht : IsTup s.heap t items) (hs : s.heap.IsSliceOf sl vl vu .none) (pl : IsPart vl lo) (pu : IsPart vu hi)
    (h1 : sIx items.size 0 lo = 0) (h2 : sIx items.size items.size hi = items.size) (h : Q (.ref t) s) : wpAny (model prog w) A (getItem (.ref t) (.ref sl)) Q E s := by
  obtain ⟨os, hos, hcs, hds⟩ := id hs
  have hTs : s.TypeIs (.ref sl) "slice" := ⟨os, hos, hcs⟩
  unfold getItem
  try with_reducible refine wpAny_holding ?_
  first | refine wpAny_bind (wpAny_pure ?_) | skip
  refine wpAny_bind (wpAny_sequenceKey ht.typeIs (by decide) ?_)
  refine wpAny_bind (wpAny_callSpecial?_slot (name := Str.ofString "__getitem__") ht.typeIs PyProof.Rows.slot_tuple_getitem
    (wpAny_call_entry PyProof.Rows.slot_tuple_getitem ht.typeIs entry_tuple_getitem ?_ (args_tuple_getitem _ _)))
  show wpAny _ _ (Builtin.Tuple.tupleItemsOf (.ref t) >>= _) _ _ s
  refine wpAny_bind (tupleItemsOf_ ht ?_)
  refine wpAny_bind (wpAny_typeOf hTs ?_)
  rw [if_pos (by decide)]
  refine wpAny_bind (sliceApplied_gen hs pl pu ?_)
  have hyes : (((sIx items.size 0 lo : Nat) : Int) == 0 && (1 : Int) == 1 && (sIx items.size items.size hi - sIx items.size 0 lo) == items.size) = true := by
    rw [h1, h2]
    simp
  show wpAny _ _ (if (((sIx items.size 0 lo : Nat) : Int) == 0 && (1 : Int) == 1 && (sIx items.size items.size hi - sIx items.size 0 lo) == items.size) = true then _ else _) _ _ s
  rw [if_pos hyes]
  have hx : ∀ A' : Around, wpAny (model prog w) A' (Builtin.Tuple.tupleIsExact (.ref t)) (fun b s' => b = true ∧ s' = s) E s := fun A' => by
    unfold Builtin.Tuple.tupleIsExact
    exact wpAny_bind (wpAny_typeOf ht.typeIs (wpAny_pure ⟨by decide, rfl⟩))
  refine wpAny_bind (wpAny_mono (hx _) ?_ fun _ _ z => z)
  rintro b s' ⟨rfl, rfl⟩
  rw [if_pos rfl]
  exact wpAny_bind (wpAny_rule (wpAny_pure ⟨_, rfl, wpAny_pure h⟩))
end
section
variable {X : Cx}
def rSlTw (K : PySem.W.Frag) : V → Option Int → Option Int → Hp → VK → Prop := fun x lo hi H Q => ∃ a xs, x = .ref a ∧ SqT K H a xs ∧ HT.sIx xs.length 0 lo = 0 ∧ HT.sIx xs.length xs.length hi = xs.length ∧ Q (.ref a) H
theorem sl_tupW : SlR X (rSlTw X.K) := by
  intro pins s σ H x v vl vu lo hi sl Q I rx hs pl pu h
  obtain ⟨a, xs, rfl, hx, h1, h2, q⟩ := h
  cases rx
  obtain ⟨its, r, ht, hz⟩ := I.tuple hx
  have hlen : its.toArray.size = xs.length := by rw [List.size_toArray]; exact r.length.symm
  refine ⟨"tuple", _, PyProof.Rows.slot_tuple_getitem.lookup, ht.typeIs, ?_⟩
  exact getItem_tuple_whole ht hs pl pu (by rw [hlen]; exact h1) (by rw [hlen]; exact h2) ⟨.ref a, H, I, rfl, q⟩
structure ModD (P : Program) (w : World) (K : PySem.W.Frag) (a : Addr) (kvs : List (Key × V)) : Prop where
  at_ : ∃ vs : List (Key × Value), KV kvs vs ∧ ∀ h : Heap, K.In h → h.DictOf (mixKind P w) a vs
def tDGetM (a : Addr) (kvs : List (Key × V)) (td ty : TE) : TE := fun σ H Q => td σ H fun x H1 => ty σ H1 fun y H2 => ∃ (k : Key) (v : V), x = .ref a ∧ y = kV k ∧ valV kvs k = some v ∧ Q v H2
theorem pe_dgetM {a : Addr} {kvs : List (Key × V)} {o i : Expr} {pos : Pos} {td ty : TE} (M : ModD X.prog X.w X.K a kvs) (ho : PE X o td) (hi : PE X i ty) (hs : NoSl i) : PE X (.Subscript o i pos) (tDGetM a kvs td ty) := by
  intro pins s σ H Q I h
  refine subD_of PySem.F.slot_dict_getitem.lookup hs (thn (ho pins s σ H _ I h) fun u s1 ⟨x, H1, I1, rx, q1⟩ => thn (hi pins s1 σ H1 _ I1 q1) fun iv s2 ⟨y, H2, I2, ry, k, v, ex, ey, hv, q2⟩ => ?_)
  subst ex
  subst ey
  obtain rfl : u = Value.ref a := rx
  obtain ⟨vs, rel, hd⟩ := M.at_
  have dd := hd s2.heap I2.kIn
  obtain ⟨w', hw, rw'⟩ := RelO.some_of (v := v) (o := valueAt vs k) (by rw [← hv]; exact rel.val k)
  exact ⟨dd.typeIs, wpAny_getItem_of (kV_is ry) dd.mapOf hw ⟨v, H2, I2.tok _, rw', q2⟩⟩
end
end Hc
set_option Elab.async false
set_option linter.all false
set_option maxRecDepth 100000
set_option maxHeartbeats 4000000
namespace Hc
open PySem PySem.Spec PyProof.Rows L2
section
variable {X : Cx}
theorem cr_range1 : CallR X (.type "range") (fun xs H Q => ∃ n : Nat, xs = [.int (n : Int)] ∧ ∀ p, H p = none → Q (.ref p) (upd H p (.rng 0 (n : Int)))) := by
  intro pins s σ H xs us Q I r h
  obtain ⟨n, rfl, q⟩ := h
  obtain ⟨u, rfl, rx⟩ := vals1 r
  obtain ⟨t, rfl⟩ := rx
  refine call_range_1 ⟨.ref s.heap.objs.size, _, I.laid (a := s.heap.objs.size) (o := .rng 0 (n : Int)) (fun b o e => Heap.get?_push_of_some _ e) (Nat.le_refl _) ⟨_, _, _, Heap.get?_push_size _ rfl⟩, rfl, q _ (I.hok.fresh (Nat.le_refl _))⟩
theorem vals_range {acc : Array Value} {n : Nat} (h : ItemsOf (fun i v => ∃ t, v = .int (0 + (i : Int) * 1) t) acc n) : Vals ((List.range n).map fun k : Nat => V.int (k : Int)) acc.toList := by
  have key : ∀ (m : Nat) (l : List Value) (k : Nat), l.length = m → (∀ j v, l[j]? = some v → ∃ t, v = Value.int ((k + j : Nat) : Int) t) → Vals ((List.range' k m).map fun k : Nat => V.int (k : Int)) l := by
    intro m
    induction m with
    | zero =>
      intro l k hl _
      cases l with
      | nil => exact .nil
      | cons a l => simp at hl
    | succ m ih =>
      intro l k hl hv
      cases l with
      | nil => simp at hl
      | cons a l =>
        rw [List.range'_succ, List.map_cons]
        refine .cons ?_ (ih l (k + 1) (by simpa using hl) fun j v e => ?_)
        · obtain ⟨t, e⟩ := hv 0 a rfl
          exact ⟨t, e⟩
        · obtain ⟨t, e2⟩ := hv (j + 1) v e
          exact ⟨t, by rw [e2]; congr 1; omega⟩
  have := key n acc.toList 0 (by rw [Array.length_toList]; exact h.1) fun j v e => by
    obtain ⟨t, e2⟩ := h.2 j v (by rw [← Array.getElem?_toList]; exact e)
    exact ⟨t, by rw [e2]; congr 1; omega⟩
  rw [← List.range_eq_range'] at this
  exact this
theorem cr_listRng (hc : X.calm = true) : CallR X (.type "list") (fun xs H Q => ∃ (a : Addr) (n : Nat), xs = [.ref a] ∧ H a = some (.rng 0 (n : Int)) ∧ n ≤ 1000 ∧ ∀ l, H l = none → Q (.ref l) (upd H l (.lst ((List.range n).map fun k : Nat => V.int (k : Int))))) := by
  intro pins s σ H xs us Q I r h
  obtain ⟨a, n, rfl, ha, hn, q⟩ := h
  obtain ⟨u, rfl, rx⟩ := vals1 r
  cases rx
  obtain ⟨t, u, v, e⟩ := (show ObjOk X.prog X.w H s.heap a (.rng 0 (n : Int)) from I.hok a _ ha)
  refine call_list_range (n := n) (I.ok.hd hc) e (small_one (by omega) (by omega) (by omega) (by omega)) (by rw [rangeSize_one]; split <;> omega) (by omega) fun h' tk acc c kp hS it => ?_
  refine ⟨.ref s.heap.objs.size, _, I.laid (a := s.heap.objs.size) (o := .lst ((List.range n).map fun k : Nat => V.int (k : Int))) (t' := tk) kp (Nat.le_refl _) ⟨?_, acc.toList, c, vals_range it, ?_⟩, rfl, q _ (I.hok.fresh (Nat.le_refl _))⟩
  · rw [List.length_map, List.length_range]
    exact Nat.le_of_lt (small1000 hn)
  · rw [Array.toArray_toList]
    exact hS
end
theorem meets_len_obj {prog : Program} {w : World} {d : Addr} {o : Obj} {es : Array DictEntry} {ep : Nat} (hd : (d == sysModules) = false) (hdat : o.data = .dict es ep) :
    MeetsIn prog w (Builtin.«dict.__len__» ⟨[.ref d], []⟩) (fun _ R s => s.heap.get? d = some o ∧ R (.ok (.ret (.int es.size s.toks))) { s with toks := s.toks + 1 }) :=
  .of_wp fun A R s ⟨ho, h⟩ => by
    show wpAny _ _ (dictSize d >>= _) _ _ s
    unfold dictSize
    refine wpAny_bind (wpAny_bind (wpAny_dictEntries ho hdat (wpAny_pure ?_)))
    show wpAny _ _ (Builtin.Dict.pendingCount d >>= _) _ _ s
    refine wpAny_bind (wpAny_pendingCount_other hd ?_)
    refine wpAny_ret_mkInt ?_
    rw [Nat.add_zero]; exact h
theorem len_obj {prog : Program} {w : World} {A : Around} {E : Value → Shared → Prop} {s : Shared} {d : Addr} {o : Obj} {es : Array DictEntry} {ep : Nat} {Q : Value → Shared → Prop} (hd : (d == sysModules) = false) (ho : s.heap.get? d = some o) (hc : o.cls = .type "dict") (hdat : o.data = .dict es ep)
    (hfit : (es.size : Int) < 2 ^ 63) (h : Q (.int es.size (s.toks + 1)) { s with toks := s.toks + 1 + 1 }) : wpAny (model prog w) A (call (.builtin "len") [.ref d]) Q E s := by
  have hT : s.TypeIs (.ref d) "dict" := ⟨o, ho, hc⟩
  refine Calls.call_function_entry kind_len plain_len entry_len (args_len1 _) ?_
  unfold Builtin.«len»
  refine wpAny_bind (m := oneArg "len" _) (wpAny_pure ?_)
  refine wpAny_bind (m := callSpecial? (.ref d) (Str.ofString "__len__")) (wpAny_callSpecial?_slot (name := Str.ofString "__len__") hT PySem.F.slot_dict_len
    (call_meetsIn PySem.F.slot_dict_len hT PySem.F.entry_dict_len (PySem.F.args_dict_len_1 _) (meets_len_obj hd hdat) ⟨ho, ?_⟩))
  show wpAny _ _ _ _ _ { s with toks := s.toks + 1 }
  refine wpAny_bind (wpAny_holding (wpAny_pure ?_))
  refine wpAny_bind (wpAny_letGo ?_)
  show wpAny _ _ (if ((es.size : Nat) : Int) < 0 then _ else _) _ _ _
  rw [if_neg (by omega)]
  show wpAny _ _ (if ((es.size : Nat) : Int) ≥ 2 ^ 63 then _ else _) _ _ _
  rw [if_neg (by omega)]
  exact wpAny_bind (wpAny_mkInt (wpAny_pure ⟨_, rfl, h⟩))
section
variable {X : Cx}
theorem call_lenDT : CallR X (.builtin "len") (fun xs H Q => ∃ a kvs, xs = [V.ref a] ∧ H a = some (.dT kvs) ∧ Q (.int kvs.length) H) := by
  intro pins s σ H xs us Q I r h
  obtain ⟨a, kvs, rfl, ha, q⟩ := h
  obtain ⟨u, rfl, ru⟩ := vals1 r
  cases ru
  obtain ⟨z, hs, xs, pr, o, es, ep, ho, hx, hdt, he, _⟩ := (show ObjOk X.prog X.w H s.heap a (.dT kvs) from I.hok a _ ha)
  have l1 : es.size = kvs.length := by rw [size_of_entries he, Paired.length pr]
  refine len_obj hs ho hx.1 hdt (by rw [l1]; rw [sizeLine_eq] at z; omega) ?_
  rw [l1]
  exact ⟨.int kvs.length, H, I.tok _, ⟨_, rfl⟩, q⟩
end
section
variable {prog : Program} {w : World} {A : Around}
theorem walks_obj (hh : A.handled = none) (I d : Addr) (hne : d ≠ I) {o : Obj} {es : Array DictEntry} {ep : Nat} (hdat : o.data = .dict es ep) :
    Walks prog w A I [I, d] [I] es.size (fun i v => ∃ en : DictEntry, es[i]? = some en ∧ v = en.key) (fun i h => h.IsKeyIter I d i es.size ep ∧ h.get? d = some o) where
  sub := fun b hb => by simp at hb; simp [hb]
  frame := fun _ _ _ st hk => ⟨st.1.at fun o e => hk I (by simp) o e, hk d (by simp) _ st.2⟩
  item := fun i s Q E hi st hQ => by
    refine next_key_item st.1 st.2 hdat rfl (Array.getElem?_eq_getElem hi) fun h' it' sb => ?_
    exact hQ _ h' s.toks ⟨_, Array.getElem?_eq_getElem hi, rfl⟩ ⟨it', (sb.2 d hne).trans st.2⟩ fun b o hb e => (sb.2 b (by simpa using hb)).trans e
  done := fun s Q E st hQ => next_key_end hh st.1 st.2 hdat rfl (Nat.le_refl _) fun h' eb => hQ h' s.toks fun b o hb e => eb b o (by simpa using hb) e
  self := fun A i s Q st h => by
    refine wpAny_pyIter_slot st.1.typeIs F.slot_dict_keyiterator_iter (wpAny_call_entry F.slot_dict_keyiterator_iter st.1.typeIs F.entry_dict_keyiterator_iter ?_ (F.args_dict_keyiterator_iter_1 _))
    show wpAny _ _ (ret (.ref I)) _ _ _
    exact wpAny_pure ⟨_, rfl, "dict_keyiterator", _, st.1.typeIs, F.slot_dict_keyiterator_next.lookup, h⟩
theorem src_obj {d : Addr} {o : Obj} {es : Array DictEntry} {ep : Nat} (lo : (d == sysModules) = false) (hc : o.ExactDict) (hdat : o.data = .dict es ep) :
    PySem.W.KdlSrc prog w "dict" d d es.size (fun i v => ∃ en : DictEntry, es[i]? = some en ∧ v = en.key) (fun h => h.get? d = some o) where
  type := fun _ hm => ⟨o, hm, hc.1⟩
  there := fun _ hm => ⟨Heap.lt_size hm, Heap.lt_size hm⟩
  keep := fun _ _ hm hk => hk d (.inl rfl) o hm
  notList := by decide
  notTuple := by decide
  hint := fun _ _ _ _ hm hq => PySem.W.kdl_hint_dict ⟨o, hm, hc.1⟩ hq
  iter := fun _ _ hh hm => ⟨_, _, (fun _ _ hq => iter_keys lo hm hc hdat hq), walks_obj hh _ d (Nat.ne_of_lt (Heap.lt_size hm)) hdat, ⟨⟨_, Heap.get?_push_size _ rfl, rfl, rfl⟩, Heap.get?_push_of_some _ hm⟩⟩
end
section
variable {X : Cx}
theorem cr_listDT (hc : X.calm = true) : CallR X (.type "list") (fun xs H Q => ∃ (a : Addr) (kvs : List (List Key × V)), xs = [V.ref a] ∧ H a = some (.dT kvs) ∧
    ∀ (qs : List Addr) (l : Addr), qs.length = kvs.length → (∀ (i : Nat) (k : List Key) (v : V) (q : Addr), kvs[i]? = some (k, v) → qs[i]? = some q → H q = some (.tup (k.map kV))) → H l = none → Q (.ref l) (upd H l (.lst (qs.map V.ref)))) := by
  intro pins s σ H xs us Q I r h
  obtain ⟨a, kvs, rfl, ha, q⟩ := h
  obtain ⟨u, rfl, ru⟩ := vals1 r
  cases ru
  obtain ⟨z, hs, xs, pr, o, es, ep, ho, hx, hdt, he, _⟩ := (show ObjOk X.prog X.w H s.heap a (.dT kvs) from I.hok a _ ha)
  have l1 : es.size = kvs.length := by rw [size_of_entries he, Paired.length pr]
  refine PySem.W.kdl_call (src_obj hs hx hdt) (I.ok.hd hc) ho (by rw [l1]; exact z) fun h' tk acc c kp hS it => ?_
  have hxl : xs.length = kvs.length := (Paired.length pr).symm
  have eacc : acc.toList = (xs.map fun x => x.2.1).map Value.ref := by
    apply List.ext_getElem?
    intro j
    rw [List.map_map, List.getElem?_map]
    cases e : acc.toList[j]? with
    | none =>
      have : acc.size ≤ j := by
        have := List.getElem?_eq_none_iff.mp e
        rw [Array.length_toList] at this
        exact this
      rw [List.getElem?_eq_none (by rw [hxl, ← l1, ← it.1]; exact this)]
      rfl
    | some v =>
      obtain ⟨en, h1, rfl⟩ := it.2 j v (by rw [← Array.getElem?_toList]; exact e)
      rw [entry_at he j] at h1
      cases ex : xs[j]? with
      | none => rw [ex] at h1; cases h1
      | some x =>
        rw [ex] at h1
        cases h1
        rfl
  refine ⟨.ref s.heap.objs.size, _, I.laid (a := s.heap.objs.size) (o := .lst ((xs.map fun x => x.2.1).map V.ref)) (t' := tk) kp (Nat.le_refl _) ⟨?_, acc.toList, c, ?_, ?_⟩, rfl, q (xs.map fun x => x.2.1) _ ?_ ?_ (I.hok.fresh (Nat.le_refl _))⟩
  · rw [List.length_map, List.length_map, hxl]
    exact z
  · rw [eacc]
    have : ∀ l : List Addr, Vals (l.map V.ref) (l.map Value.ref) := fun l => by
      induction l with
      | nil => exact .nil
      | cons a l ih => exact .cons rfl ih
    exact this _
  · rw [Array.toArray_toList]
    exact hS
  · rw [List.length_map, hxl]
  · intro i k v qa h1 h2
    obtain ⟨x, hx1, e1, e2, _⟩ := paired_get pr h1
    rw [List.getElem?_map, hx1] at h2
    cases h2
    exact e2
def tDisp1 (tk tv : TE) : TE := fun σ H Q => ∀ p, H p = none → tk σ (upd H p (.dT [])) fun x H1 => tv σ H1 fun y H2 => ∃ (b : Addr) (k : List Key), x = .ref b ∧ H2 p = some (.dT []) ∧ H2 b = some (.tup (k.map kV)) ∧ Q (.ref p) (upd H2 p (.dT [(k, y)]))
theorem pe_disp1 {k v : Expr} {pos : Pos} {tk tv : TE} (hu : X.A.units < cLine) (hk : PE X k tk) (hv : PE X v tv) : PE X (.Dict [some k] [v] pos) (tDisp1 tk tv) := by
  intro pins s σ H Q I q
  have hn := I.hok.fresh (Nat.le_refl s.heap.objs.size)
  have I1 := I.laid (a := s.heap.objs.size) (o := .dT []) (h' := s.heap.push { cls := .type "dict", data := .dict #[] }) (t' := s.toks) (fun _ _ q => Heap.get?_push_of_some _ q) (Nat.le_refl _) (dt_empty s.heap I.big)
  refine wpAny_Dict_any rfl rfl (by simp) (by show 1 ≤ 15; decide) ?_
  refine pairTrees_cons_walk (thn (hk pins _ σ _ _ I1 (q _ hn)) fun u s1 ⟨x, H1, I2, rx, q1⟩ => thn (hv pins s1 σ H1 _ I2 q1) fun w2 s2 ⟨y, H2, I3, ry, b, ks, ex, e0, eb, q2⟩ => pairTrees_nil_walk ?_)
  subst ex
  obtain rfl : u = Value.ref b := rx
  obtain ⟨z, hd, xs, rel, dd⟩ := dt_of I3.hok e0
  cases rel
  unfold storeAll
  rw [List.forIn_cons]
  refine wpAny_bind (wpAny_bind (wpAny_dictSet_heap (hsz := Nat.zero_le _) (knd := tupleKind (mixKind X.prog X.w)) hu (key_of I3.hok eb) dd fun h' dd' hs => wpAny_pure ?_))
  dsimp only
  rw [List.forIn_nil]
  refine wpAny_pure ⟨.ref s.heap.objs.size, _, ?_, rfl, q2⟩
  obtain ⟨qo, es, ep, hq, h2, h3, h4, _, h5⟩ := dd'
  refine d_write I3 (by rw [e0]; exact True.intro) hs ⟨qo, hq⟩ ⟨(by show 1 ≤ sizeLine; decide), hd, _, ?_, qo, es, ep, hq, h2, h3, h4, h5⟩
  have kt : KT H2 (putK [] ks y) (storedH [] ks b w2) := KT.put (H := H2) (kvs := []) (xs := []) .nil ks eb ry
  refine kt.keeps fun c ys ec => ?_
  rw [upd_ne (ne_of ec e0 (fun z => nomatch z))]
  exact ec
end
end Hc
set_option Elab.async false
set_option linter.all false
set_option maxRecDepth 100000
set_option maxHeartbeats 4000000
namespace Hc
open PySem PySem.Spec PyProof.Rows L2
section
variable {P : Program} {w : World} {K : PySem.W.Frag} {mg : Str → Option Value} {base : Heap} {C tc pc : Addr}
def spCardOf : Sp := fun vs H Q _ => ∃ t : Nat, vs = [nV t] ∧ t < 11 ∧ Q (nV (Vbenag.cardOf t)) H
theorem sc_card_of : FnScope ["term"] ["term"] (defScope s_card_of) := ⟨rfl, rfl, rfl, by decide +kernel, rfl, by decide +kernel, by decide +kernel⟩
theorem tc_at : ∀ t, t < 11 → (Vbenag.TERMCARDS.map nV)[t]? = some (nV (Vbenag.cardOf t)) := by decide
theorem ok_card_of {f : Addr} {fd : FuncData} (F : Fun K "card_of" "card_of" s_card_of f fd) (T : Txt K mg C tc pc) : FnOk P w K mg base CX0 1 f fd ["term"] spCardOf := by
  refine F.ok sc_card_of (fun vs H Q E h => ?_) (fun cdv A outer s H vs Q E hr h => ?_)
  · obtain ⟨t, rfl, _⟩ := h
    rfl
  · obtain ⟨t, rfl, ht, k⟩ := h
    refine ⟨_, pss_one (ps_ret (pe_ix ix_tup (pe_gref rfl T.mgT) (pv 0) (fun _ _ => rfl))), ?_⟩
    exact ⟨_, rfl, tc, _, _, _, rfl, rfl, T.tcs _, atI_nat (tc_at t ht), k⟩
def spIsTerm (C : Addr) : Sp := fun vs H Q _ => ∃ (a : Addr) (y : Lay) (s : Vbenag.State) (n : Int), vs = [.ref a, .int n] ∧ FileAt C H a y s ∧ Q (.bl (Vbenag.isTerm s n)) H
theorem sc_is_term : FnScope ["self", "number"] ["self", "number"] (defScope m_is_term) := ⟨rfl, rfl, rfl, by decide +kernel, rfl, by decide +kernel, by decide +kernel⟩
theorem between_eq (n : Int) (m : Nat) : (VbenCore.isBetween n 0 ((m : Int) - 1)) = (decide (0 ≤ n) && decide (n < (m : Int))) := by
  unfold VbenCore.isBetween
  congr 1
  exact decide_eq_decide.mpr (by omega)
theorem ok_is_term {f : Addr} {fd : FuncData} (F : Fun K "is_term" "CardFile.is_term" m_is_term f fd) (T : Txt K mg C tc pc) : FnOk P w K mg base CX0 1 f fd ["self", "number"] (spIsTerm C) := by
  refine F.ok sc_is_term (fun vs H Q E h => ?_) (fun cdv A outer s H vs Q E hr h => ?_)
  · obtain ⟨a, y, s, n, rfl, _⟩ := h
    rfl
  · obtain ⟨a, y, st, n, rfl, hF, k⟩ := h
    refine ⟨_, pss_one (ps_ret (pe_chain op_le op_lt pe_int (pv 1) (pe_fld (pv 0) rfl))), ?_⟩
    have e : Vbenag.isTerm st n = (decide (0 ≤ n) && decide (n < (st.terms : Int))) := between_eq n st.terms
    rw [e] at k
    refine ⟨_, rfl, _, _, rfl, rfl, _, rfl, ?_⟩
    refine ite2 (fun q => ?_) fun q => ?_
    · rw [q, Bool.true_and] at k
      exact ⟨_, rfl, a, C, _, _, _, rfl, hF.obj, T.cl, T.nT, rfl, _, _, rfl, rfl, k⟩
    · rw [Bool.eq_false_iff.mpr q, Bool.false_and] at k
      exact k
def spIsPlace (C : Addr) : Sp := fun vs H Q _ => ∃ (a : Addr) (y : Lay) (s : Vbenag.State) (n : Int), vs = [.ref a, .int n] ∧ FileAt C H a y s ∧ Q (.bl (Vbenag.isPlace s n)) H
theorem sc_is_place : FnScope ["self", "number"] ["self", "number"] (defScope m_is_place) := ⟨rfl, rfl, rfl, by decide +kernel, rfl, by decide +kernel, by decide +kernel⟩
theorem ok_is_place {f : Addr} {fd : FuncData} (F : Fun K "is_place" "CardFile.is_place" m_is_place f fd) (T : Txt K mg C tc pc) : FnOk P w K mg base CX0 1 f fd ["self", "number"] (spIsPlace C) := by
  refine F.ok sc_is_place (fun vs H Q E h => ?_) (fun cdv A outer s H vs Q E hr h => ?_)
  · obtain ⟨a, y, s, n, rfl, _⟩ := h
    rfl
  · obtain ⟨a, y, st, n, rfl, hF, k⟩ := h
    refine ⟨_, pss_one (ps_ret (pe_chain op_le op_lt pe_int (pv 1) (pe_fld (pv 0) rfl))), ?_⟩
    have e : Vbenag.isPlace st n = (decide (0 ≤ n) && decide (n < (st.places : Int))) := between_eq n st.places
    rw [e] at k
    refine ⟨_, rfl, _, _, rfl, rfl, _, rfl, ?_⟩
    refine ite2 (fun q => ?_) fun q => ?_
    · rw [q, Bool.true_and] at k
      exact ⟨_, rfl, a, C, _, _, _, rfl, hF.obj, T.cl, T.nP, rfl, _, _, rfl, rfl, k⟩
    · rw [Bool.eq_false_iff.mpr q, Bool.false_and] at k
      exact k
def spIsCard (C : Addr) : Sp := fun vs H Q _ => ∃ (a : Addr) (y : Lay) (s : Vbenag.State) (n : Int), vs = [.ref a, .int n] ∧ FileAt C H a y s ∧ Q (.bl (Vbenag.isCard s n)) H
theorem sc_is_card : FnScope ["self", "number"] ["self", "number"] (defScope m_is_card) := ⟨rfl, rfl, rfl, by decide +kernel, rfl, by decide +kernel, by decide +kernel⟩
theorem ok_is_card {f : Addr} {fd : FuncData} (F : Fun K "is_card" "CardFile.is_card" m_is_card f fd) (T : Txt K mg C tc pc) : FnOk P w K mg base CX0 1 f fd ["self", "number"] (spIsCard C) := by
  refine F.ok sc_is_card (fun vs H Q E h => ?_) (fun cdv A outer s H vs Q E hr h => ?_)
  · obtain ⟨a, y, s, n, rfl, _⟩ := h
    rfl
  · obtain ⟨a, y, st, n, rfl, hF, k⟩ := h
    refine ⟨_, pss_one (ps_ret (pe_cmpR op_in_seq (pv 1) (pe_fld (pv 0) rfl) (by with_unfolding_all rfl))), ?_⟩
    have e : Vbenag.isCard st n = inV (.int n) ((Vbenag.used st).map nV) := (inV_cards _ n).symm
    rw [e] at k
    exact ⟨_, rfl, _, rfl, a, C, _, _, _, rfl, hF.obj, T.cl, T.nC, rfl, y.hc, _, rfl, .inl (SqL.of hF.cards), rfl, flat_nV _, k⟩
def spIsLost (C : Addr) : Sp := fun vs H Q _ => ∃ (a : Addr) (y : Lay) (s : Vbenag.State) (c : Nat), vs = [.ref a, nV c] ∧ FileAt C H a y s ∧ Q (.bl (s.lost.contains c)) H
theorem sc_is_lost : FnScope ["self", "card"] ["self", "card"] (defScope m_is_lost) := ⟨rfl, rfl, rfl, by decide +kernel, rfl, by decide +kernel, by decide +kernel⟩
theorem lost_some {C : Addr} {H : Hp} {a : Addr} {y : Lay} {s : Vbenag.State} (hF : FileAt C H a y s) (c : Nat) : (valV (lostD y.los) (keyN c)).isSome = s.lost.contains c := by
  rw [valV_lost]
  by_cases q : c ∈ y.los
  · rw [if_pos q, List.contains_iff_mem.mpr (hF.losP.mem_iff.mp q)]
    rfl
  · rw [if_neg q]
    have : c ∉ s.lost := fun z => q (hF.losP.mem_iff.mpr z)
    cases e : s.lost.contains c with
    | false => rfl
    | true => exact absurd (List.contains_iff_mem.mp e) this
theorem ok_is_lost {f : Addr} {fd : FuncData} (F : Fun K "is_lost" "CardFile.is_lost" m_is_lost f fd) (T : Txt K mg C tc pc) : FnOk P w K mg base CX0 1 f fd ["self", "card"] (spIsLost C) := by
  refine F.ok sc_is_lost (fun vs H Q E h => ?_) (fun cdv A outer s H vs Q E hr h => ?_)
  · obtain ⟨a, y, s, n, rfl, _⟩ := h
    rfl
  · obtain ⟨a, y, st, c, rfl, hF, k⟩ := h
    refine ⟨_, pss_one (ps_ret (pe_cmp (pc_din (hu_of hr) (pv 1) (pe_fld (pv 0) rfl)) (by with_unfolding_all rfl))), ?_⟩
    rw [← lost_some hF c] at k
    exact ⟨_, rfl, _, rfl, a, C, _, _, _, rfl, hF.obj, T.cl, T.nL, rfl, y.hl, _, rfl, DGet.k (k := keyN c) hF.lost, k⟩
def spCards (C : Addr) (F : Vbenag.State → List Nat) : Sp := fun vs H Q _ => ∃ (a : Addr) (y : Lay) (s : Vbenag.State), vs = [.ref a] ∧ FileAt C H a y s ∧ ∀ H' D, Same H H' → H D = none → H' D = some (.lst ((F s).map nV)) → Q (.ref D) H'
theorem FileG.same {C : Addr} {H H' : Hp} {a : Addr} {y : Lay} {s : Vbenag.State} {ls : List Nat} (h : FileG C H a y s ls) (e : Same H H') : FileG C H' a y s ls :=
  ⟨h.wf, e _ _ h.obj, e _ _ h.cards, e _ _ h.holes, h.rlen, fun i c r h1 h2 => e _ _ (h.row i c r h1 h2), h.rnd, e _ _ h.items, h.clen, h.cellN,
    fun p b q => (by obtain ⟨l, h1, h2⟩ := h.cellS p b q; exact ⟨l, h1, e _ _ h2⟩), e _ _ h.lost, h.losP⟩
theorem sc_lost_cards : FnScope ["self", "card"] ["self"] (defScope m_lost_cards) := ⟨rfl, rfl, rfl, by decide +kernel, rfl, by decide +kernel, by decide +kernel⟩
theorem used_lt1000 {s : Vbenag.State} (h : Wf s) : (Vbenag.used s).length < 1000 := by
  have := used_len h
  have := h.t11
  omega
theorem ok_lost_cards {f : Addr} {fd : FuncData} (F : Fun K "lost_cards" "CardFile.lost_cards" m_lost_cards f fd) (T : Txt K mg C tc pc)
    (ML : MOk P w K mg base C "is_lost" 1 ["self", "card"] (spIsLost C)) : FnOk P w K mg base CX0 2 f fd ["self"] (spCards C (·.lost)) := by
  refine F.ok sc_lost_cards (fun vs H Q E h => ?_) (fun cdv A outer s H vs Q E hr h => ?_)
  · obtain ⟨a, y, s, rfl, _⟩ := h
    rfl
  · obtain ⟨a, y, st, rfl, hF, k⟩ := h
    refine ⟨_, pss_one (ps_ret (pe_lc (own := [("card", 1)]) rfl sc_lost_cards.nd (pi_list (pe_fld (pv 0) rfl)) (blkOk_by rfl)
      (fun s H C cl fp => pg_name (i := 1) sc_lost_cards.nd rfl (Or.inl rfl) (Or.inr rfl))
      (fun s H C' cl fp => pts_one (pt_val (pe_m ML T.cl hr (pv 0) (pa_cons (pv 1) pa_nil))))
      (fun s H C cl fp => pv 1))), ?_⟩
    refine ⟨_, rfl, a, C, _, _, _, rfl, hF.obj, T.cl, T.nC, rfl, ?_⟩
    refine lcL (K := K) (Vbenag.used st) nV (fun c => st.lost.contains c) nV (SqL.of hF.cards) ⟨used_lt1000 hF.wf, fun c hc H2 R s2 q => ?_, fun c hc _ H2 R s2 q => ?_, fun D H2 hD s2 e => ?_⟩
    · have hF2 := hF.same s2
      exact ⟨_, rfl, a, _, _, rfl, hF2.obj, rfl, _, rfl, a, y, st, c, rfl, hF2, _, rfl, q H2 (Same.refl _)⟩
    · exact ⟨_, rfl, q H2 (Same.refl _)⟩
    · rw [filt_sub (inc_used st) hF.wf.lostI hF.wf.lostU] at e
      exact k H2 D s2 hD e
theorem sc_kept_cards : FnScope ["self", "card"] ["self"] (defScope m_kept_cards) := ⟨rfl, rfl, rfl, by decide +kernel, rfl, by decide +kernel, by decide +kernel⟩
theorem ok_kept_cards {f : Addr} {fd : FuncData} (F : Fun K "kept_cards" "CardFile.kept_cards" m_kept_cards f fd) (T : Txt K mg C tc pc)
    (ML : MOk P w K mg base C "is_lost" 1 ["self", "card"] (spIsLost C)) : FnOk P w K mg base CX0 2 f fd ["self"] (spCards C kept) := by
  refine F.ok sc_kept_cards (fun vs H Q E h => ?_) (fun cdv A outer s H vs Q E hr h => ?_)
  · obtain ⟨a, y, s, rfl, _⟩ := h
    rfl
  · obtain ⟨a, y, st, rfl, hF, k⟩ := h
    refine ⟨_, pss_one (ps_ret (pe_lc (own := [("card", 1)]) rfl sc_kept_cards.nd (pi_list (pe_fld (pv 0) rfl)) (blkOk_by rfl)
      (fun s H C cl fp => pg_name (i := 1) sc_kept_cards.nd rfl (Or.inl rfl) (Or.inr rfl))
      (fun s H C' cl fp => pts_one (pt_not (pt_val (pe_m ML T.cl hr (pv 0) (pa_cons (pv 1) pa_nil)))))
      (fun s H C cl fp => pv 1))), ?_⟩
    refine ⟨_, rfl, a, C, _, _, _, rfl, hF.obj, T.cl, T.nC, rfl, ?_⟩
    refine lcL (K := K) (Vbenag.used st) nV (fun c => !st.lost.contains c) nV (SqL.of hF.cards) ⟨used_lt1000 hF.wf, fun c hc H2 R s2 q => ?_, fun c hc _ H2 R s2 q => ?_, fun D H2 hD s2 e => k H2 D s2 hD e⟩
    · have hF2 := hF.same s2
      exact ⟨_, rfl, a, _, _, rfl, hF2.obj, rfl, _, rfl, a, y, st, c, rfl, hF2, _, rfl, q H2 (Same.refl _)⟩
    · exact ⟨_, rfl, q H2 (Same.refl _)⟩
def spHasHole (C : Addr) : Sp := fun vs H Q _ => ∃ (a : Addr) (y : Lay) (s : Vbenag.State) (c p : Nat), vs = [.ref a, nV c, nV p] ∧ FileAt C H a y s ∧ c ∈ Vbenag.used s ∧ p < s.places ∧ Q (.bl (Vbenag.isHole s c p)) H
theorem sc_has_hole : FnScope ["self", "card", "place"] ["self", "card", "place"] (defScope m_has_hole) := ⟨rfl, rfl, rfl, by decide +kernel, rfl, by decide +kernel, by decide +kernel⟩
theorem FileG.at {C : Addr} {H : Hp} {a : Addr} {y : Lay} {s : Vbenag.State} {ls : List Nat} (h : FileG C H a y s ls) {c : Nat} (hc : c ∈ Vbenag.used s) : ∃ (i : Nat) (r : Addr), (Vbenag.used s)[i]? = some c ∧ y.rows[i]? = some r ∧ valV (holesD (Vbenag.used s) y.rows) (keyN c) = some (.ref r) ∧ H r = some (.lst (rowV s c)) := by
  obtain ⟨i, hi⟩ := List.getElem?_of_mem hc
  have hl : i < y.rows.length := by
    rw [h.rlen]
    exact (List.getElem?_eq_some_iff.mp hi).1
  have hr := List.getElem?_eq_getElem hl
  exact ⟨i, _, hi, hr, valV_holes (inc_used s).nodup hi hr, h.row i c _ hi hr⟩
theorem ok_has_hole {f : Addr} {fd : FuncData} (F : Fun K "has_hole" "CardFile.has_hole" m_has_hole f fd) (T : Txt K mg C tc pc) : FnOk P w K mg base CX0 1 f fd ["self", "card", "place"] (spHasHole C) := by
  refine F.ok sc_has_hole (fun vs H Q E h => ?_) (fun cdv A outer s H vs Q E hr h => ?_)
  · obtain ⟨a, y, s, c, p, rfl, _⟩ := h
    rfl
  · obtain ⟨a, y, st, c, p, rfl, hF, hc, hp, k⟩ := h
    refine ⟨_, pss_one (ps_ret (pe_ix ix_list (pe_dget (hu_of hr) (pe_fld (pv 0) rfl) (pv 1) (fun _ _ => rfl)) (pv 2) (fun _ _ => rfl))), ?_⟩
    obtain ⟨i, r, hi, hr', hv, hrow⟩ := hF.at hc
    exact ⟨_, rfl, a, C, _, _, _, rfl, hF.obj, T.cl, T.nH, rfl, _, rfl, y.hh, .ref r, rfl, hv ▸ DGet.k (k := keyN c) hF.holes, _, rfl, r, _, _, _, rfl, rfl, SqL.of hrow, atI_nat (row_at hp), k⟩
theorem tLc_src {K : PySem.W.Frag} {tl : TE} {g : TG} {tt : TT} {te : TE} {vs : List Nat} {σ : L2.St} {H : Hp} {Q : VK} (h : tl σ H fun x H1 => tLc (iList K (tC x)) g tt te vs σ H1 Q) : tLc (iList K tl) g tt te vs σ H Q := h
def termsOf (s : Vbenag.State) : List Nat := List.range s.terms
def placesOf (s : Vbenag.State) : List Nat := List.range s.places
theorem sc_terms : FnScope ["self"] ["self"] (defScope m_terms) := ⟨rfl, rfl, rfl, by decide +kernel, rfl, by decide +kernel, by decide +kernel⟩
theorem ok_terms {f : Addr} {fd : FuncData} (F : Fun K "terms" "CardFile.terms" m_terms f fd) (T : Txt K mg C tc pc) : FnOk P w K mg base CX0 1 f fd ["self"] (spCards C termsOf) := by
  refine F.ok sc_terms (fun vs H Q E h => ?_) (fun cdv A outer s H vs Q E hr h => ?_)
  · obtain ⟨a, y, s, rfl, _⟩ := h
    rfl
  · obtain ⟨a, y, st, rfl, hF, k⟩ := h
    refine ⟨_, pss_one (ps_ret (pe_callTy (cr_listRng rfl) (by rfl) T.list PyProof.Rows.boot_list (pa_cons (pe_callTy cr_range1 (by rfl) T.range boot_range (pa_cons (pe_fld (pv 0) rfl) pa_nil)) pa_nil))), ?_⟩
    have h11 := hF.wf.t11
    refine ⟨_, rfl, a, C, _, _, _, rfl, hF.obj, T.cl, T.nT, rfl, st.terms, rfl, fun p np => ⟨p, st.terms, rfl, upd_same, by omega, fun l nl => ?_⟩⟩
    exact k _ l ((same_new np).trans (same_new nl)) ((same_new np (o := .rng 0 (st.terms : Int))).free nl) upd_same
theorem sc_places : FnScope ["self"] ["self"] (defScope m_places) := ⟨rfl, rfl, rfl, by decide +kernel, rfl, by decide +kernel, by decide +kernel⟩
theorem ok_places {f : Addr} {fd : FuncData} (F : Fun K "places" "CardFile.places" m_places f fd) (T : Txt K mg C tc pc) : FnOk P w K mg base CX0 1 f fd ["self"] (spCards C placesOf) := by
  refine F.ok sc_places (fun vs H Q E h => ?_) (fun cdv A outer s H vs Q E hr h => ?_)
  · obtain ⟨a, y, s, rfl, _⟩ := h
    rfl
  · obtain ⟨a, y, st, rfl, hF, k⟩ := h
    refine ⟨_, pss_one (ps_ret (pe_callTy (cr_listRng rfl) (by rfl) T.list PyProof.Rows.boot_list (pa_cons (pe_callTy cr_range1 (by rfl) T.range boot_range (pa_cons (pe_fld (pv 0) rfl) pa_nil)) pa_nil))), ?_⟩
    have h40 := hF.wf.p40
    refine ⟨_, rfl, a, C, _, _, _, rfl, hF.obj, T.cl, T.nP, rfl, st.places, rfl, fun p np => ⟨p, st.places, rfl, upd_same, by omega, fun l nl => ?_⟩⟩
    exact k _ l ((same_new np).trans (same_new nl)) ((same_new np (o := .rng 0 (st.places : Int))).free nl) upd_same
def spPlacesOf (C : Addr) : Sp := fun vs H Q _ => ∃ (a : Addr) (y : Lay) (s : Vbenag.State) (c : Nat), vs = [.ref a, nV c] ∧ FileAt C H a y s ∧ c ∈ Vbenag.used s ∧ ∀ H' D, Same H H' → H D = none → H' D = some (.lst ((s.cards.getD c []).map nV)) → Q (.ref D) H'
theorem sc_places_of : FnScope ["self", "card", "place"] ["self", "card"] (defScope m_places_of) := ⟨rfl, rfl, rfl, by decide +kernel, rfl, by decide +kernel, by decide +kernel⟩
theorem places_lt {s : Vbenag.State} (h : Wf s) : (List.range s.places).length < 1000 := by
  rw [List.length_range]
  have := h.p40
  omega
theorem ok_places_of {f : Addr} {fd : FuncData} (F : Fun K "places_of" "CardFile.places_of" m_places_of f fd) (T : Txt K mg C tc pc)
    (MP : MOk P w K mg base C "places" 1 ["self"] (spCards C placesOf)) (MH : MOk P w K mg base C "has_hole" 1 ["self", "card", "place"] (spHasHole C)) : FnOk P w K mg base CX0 2 f fd ["self", "card"] (spPlacesOf C) := by
  refine F.ok sc_places_of (fun vs H Q E h => ?_) (fun cdv A outer s H vs Q E hr h => ?_)
  · obtain ⟨a, y, s, c, rfl, _⟩ := h
    rfl
  · obtain ⟨a, y, st, c, rfl, hF, hc, k⟩ := h
    refine ⟨_, pss_one (ps_ret (pe_lc (own := [("place", 2)]) rfl sc_places_of.nd (pi_list (pe_m0 MP T.cl hr (pv 0))) (blkOk_by rfl)
      (fun s H C cl fp => pg_name (i := 2) sc_places_of.nd rfl (Or.inl rfl) (Or.inr rfl))
      (fun s H C' cl fp => pts_one (pt_val (pe_m MH T.cl hr (pv 0) (pa_cons (pv 1) (pa_cons (pv 2) pa_nil)))))
      (fun s H C cl fp => pv 2))), ?_⟩
    refine tRet_i (tLc_src ?_)
    refine ⟨_, rfl, a, _, _, rfl, hF.obj, rfl, a, y, st, rfl, hF, fun H1 D1 s1 n1 e1 => ?_⟩
    refine lcL (K := K) (placesOf st) nV (fun p => Vbenag.isHole st c p) nV (SqL.of e1) ⟨places_lt hF.wf, fun p hp H2 R s2 q => ?_, fun p hp _ H2 R s2 q => ?_, fun D H2 hD s2 e => ?_⟩
    · have hF2 := hF.same (s1.trans s2)
      exact ⟨_, rfl, a, _, _, rfl, hF2.obj, rfl, _, rfl, _, rfl, a, y, st, c, p, rfl, hF2, hc, List.mem_range.mp hp, _, rfl, q H2 (Same.refl _)⟩
    · exact ⟨_, rfl, q H2 (Same.refl _)⟩
    · have e : H2 D = some (.lst (((List.range st.places).filter fun p => Vbenag.isHole st c p).map nV)) := e
      rw [← hole_range st hF.wf c] at e
      exact k H2 D (s1.trans s2) (s1.free hD) e
def spCardsAt (C : Addr) : Sp := fun vs H Q _ => ∃ (a : Addr) (y : Lay) (s : Vbenag.State) (p : Nat), vs = [.ref a, nV p] ∧ FileAt C H a y s ∧ p < s.places ∧ ∀ H' D, Same H H' → H D = none → H' D = some (.lst ((holesAt s p).map nV)) → Q (.ref D) H'
theorem sc_cards_at : FnScope ["self", "place", "card"] ["self", "place"] (defScope m_cards_at) := ⟨rfl, rfl, rfl, by decide +kernel, rfl, by decide +kernel, by decide +kernel⟩
theorem ok_cards_at {f : Addr} {fd : FuncData} (F : Fun K "cards_at" "CardFile.cards_at" m_cards_at f fd) (T : Txt K mg C tc pc)
    (MH : MOk P w K mg base C "has_hole" 1 ["self", "card", "place"] (spHasHole C)) : FnOk P w K mg base CX0 2 f fd ["self", "place"] (spCardsAt C) := by
  refine F.ok sc_cards_at (fun vs H Q E h => ?_) (fun cdv A outer s H vs Q E hr h => ?_)
  · obtain ⟨a, y, s, p, rfl, _⟩ := h
    rfl
  · obtain ⟨a, y, st, p, rfl, hF, hp, k⟩ := h
    refine ⟨_, pss_one (ps_ret (pe_lc (own := [("card", 2)]) rfl sc_cards_at.nd (pi_list (pe_fld (pv 0) rfl)) (blkOk_by rfl)
      (fun s H C cl fp => pg_name (i := 2) sc_cards_at.nd rfl (Or.inl rfl) (Or.inr rfl))
      (fun s H C' cl fp => pts_one (pt_val (pe_m MH T.cl hr (pv 0) (pa_cons (pv 2) (pa_cons (pv 1) pa_nil)))))
      (fun s H C cl fp => pv 2))), ?_⟩
    refine ⟨_, rfl, a, C, _, _, _, rfl, hF.obj, T.cl, T.nC, rfl, ?_⟩
    refine lcL (K := K) (Vbenag.used st) nV (fun c => Vbenag.isHole st c p) nV (SqL.of hF.cards) ⟨used_lt1000 hF.wf, fun c hc H2 R s2 q => ?_, fun c hc _ H2 R s2 q => ?_, fun D H2 hD s2 e => k H2 D s2 hD e⟩
    · have hF2 := hF.same s2
      exact ⟨_, rfl, a, _, _, rfl, hF2.obj, rfl, _, rfl, _, rfl, a, y, st, c, p, rfl, hF2, hc, hp, _, rfl, q H2 (Same.refl _)⟩
    · exact ⟨_, rfl, q H2 (Same.refl _)⟩
end
end Hc
set_option Elab.async false
set_option linter.all false
set_option maxRecDepth 100000
set_option maxHeartbeats 4000000
namespace Hc
open PySem PySem.Spec PyProof.Rows L2
def own (a : Addr) (y : Lay) : List Addr := a :: y.hh :: y.hi :: y.hl :: y.rows
def foot (a : Addr) (y : Lay) : List Addr := own a y ++ y.hc :: y.cells.filterMap id
structure Chg (a : Addr) (y y' : Lay) (H H' : Hp) : Prop where
  frm : ∀ b o, H b = some o → b ∉ own a y → H' b = some o
  new : ∀ b ∈ own a y', b ∈ own a y ∨ H b = none
  trk : ∀ b o, H b = some o → ∃ o', H' b = some o'
  newF : ∀ b ∈ foot a y', b ∈ foot a y ∨ H b = none
theorem Chg.of {a : Addr} {y y' : Lay} {H H' : Hp} (e1 : y'.hc = y.hc) (e2 : y'.cells = y.cells) (frm : ∀ b o, H b = some o → b ∉ own a y → H' b = some o) (new : ∀ b ∈ own a y', b ∈ own a y ∨ H b = none) (trk : ∀ b o, H b = some o → ∃ o', H' b = some o') : Chg a y y' H H' :=
  ⟨frm, new, trk, fun b hb => by
    rcases List.mem_append.mp hb with z | z
    · exact (new b z).elim (fun q => .inl (List.mem_append_left _ q)) .inr
    · rw [e1, e2] at z
      exact .inl (List.mem_append_right _ z)⟩
theorem Chg.refl (a : Addr) (y : Lay) (H : Hp) : Chg a y y H H := ⟨fun _ _ e _ => e, fun _ h => .inl h, fun _ o e => ⟨o, e⟩, fun _ h => .inl h⟩
theorem Chg.same {a : Addr} {y : Lay} {H H' : Hp} (s : Same H H') : Chg a y y H H' := ⟨fun b o e _ => s b o e, fun _ h => .inl h, fun b o e => ⟨o, s b o e⟩, fun _ h => .inl h⟩
theorem Chg.none {a : Addr} {y y' : Lay} {H H' : Hp} (g : Chg a y y' H H') {D : Addr} (h : H' D = Option.none) : H D = Option.none := by
  cases q : H D with
  | none => rfl
  | some o =>
    obtain ⟨o', e⟩ := g.trk D o q
    rw [h] at e
    cases e
theorem Chg.trans {a : Addr} {y y' y'' : Lay} {H H' H'' : Hp} (g : Chg a y y' H H') (h : Chg a y' y'' H' H'') : Chg a y y'' H H'' := by
  refine ⟨fun b o e n => h.frm b o (g.frm b o e n) fun q => (g.new b q).elim n fun z => (by rw [e] at z; cases z), fun b hb => ?_, fun b o e => ?_, fun b hb => ?_⟩
  · rcases h.new b hb with q | q
    · exact g.new b q
    · exact .inr (g.none q)
  · obtain ⟨o1, e1⟩ := g.trk b o e
    exact h.trk b o1 e1
  · rcases h.newF b hb with q | q
    · exact g.newF b q
    · exact .inr (g.none q)
theorem Chg.sameL {a : Addr} {y y' : Lay} {H H1 H' : Hp} (s : Same H H1) (h : Chg a y y' H1 H') : Chg a y y' H H' := (Chg.same s).trans h
theorem Chg.sameR {a : Addr} {y y' : Lay} {H H1 H' : Hp} (h : Chg a y y' H H1) (s : Same H1 H') : Chg a y y' H H' := h.trans (Chg.same s)
theorem row_ne_ints {s : Vbenag.State} (h : Wf s) (c : Nat) (l : List Nat) : HO.lst (rowV s c) ≠ HO.lst (l.map nV) := fun e => by
  have e : rowV s c = l.map nV := HO.lst.inj e
  have q := row_at (s := s) (c := c) (p := 0) h.p1
  rw [e, List.getElem?_map] at q
  cases z : l[0]? with
  | none => rw [z] at q; cases q
  | some x => rw [z] at q; cases q
theorem row_ne_cells {s : Vbenag.State} (h : Wf s) (c : Nat) (l : List (Option Addr)) : HO.lst (rowV s c) ≠ HO.lst (l.map cellV) := fun e => by
  have e : rowV s c = l.map cellV := HO.lst.inj e
  have q := row_at (s := s) (c := c) (p := 0) h.p1
  rw [e, List.getElem?_map] at q
  cases z : l[0]? with
  | none => rw [z] at q; cases q
  | some x => rw [z] at q; cases x <;> cases q
theorem cells_ne_ints {s : Vbenag.State} (h : Wf s) {cs : List (Option Addr)} (hc : cs.length = s.places) (l : List Nat) : HO.lst (cs.map cellV) ≠ HO.lst (l.map nV) := fun e => by
  have e : cs.map cellV = l.map nV := HO.lst.inj e
  have hp := h.p1
  have hl : 0 < cs.length := by omega
  have q : (cs.map cellV)[0]? = some (cellV cs[0]) := by rw [List.getElem?_map, List.getElem?_eq_getElem hl]; rfl
  rw [e, List.getElem?_map] at q
  cases z : l[0]? with
  | none => rw [z] at q; cases q
  | some x =>
    rw [z] at q
    have q := Option.some.inj q
    cases hz : cs[0] with
    | none => rw [hz] at q; cases q
    | some _ => rw [hz] at q; cases q
theorem holes_ne_lost {s : Vbenag.State} (h : Wf s) {rows : List Addr} (hl : rows.length = (Vbenag.used s).length) (los : List Nat) : HO.dK (holesD (Vbenag.used s) rows) ≠ HO.dK (lostD los) := fun e => by
  have e : holesD (Vbenag.used s) rows = lostD los := HO.dK.inj e
  have hu := used_len h
  have h0 : 0 < ((Vbenag.used s).zip rows).length := by rw [List.length_zip]; omega
  have q : (holesD (Vbenag.used s) rows)[0]? = some (keyN ((Vbenag.used s).zip rows)[0].1, V.ref ((Vbenag.used s).zip rows)[0].2) := by
    unfold holesD
    rw [List.getElem?_map, List.getElem?_eq_getElem h0]
    rfl
  rw [e] at q
  unfold lostD at q
  rw [List.getElem?_map] at q
  cases z : los[0]? with
  | none => rw [z] at q; cases q
  | some x => rw [z] at q; cases (Prod.mk.inj (Option.some.inj q)).2
theorem FileG.rowNe {C : Addr} {H : Hp} {a : Addr} {y : Lay} {s : Vbenag.State} {ls : List Nat} (h : FileG C H a y s ls) {i c : Nat} {r : Addr} (hi : (Vbenag.used s)[i]? = some c) (hr : y.rows[i]? = some r) :
    r ≠ a ∧ r ≠ y.hc ∧ r ≠ y.hh ∧ r ≠ y.hi ∧ r ≠ y.hl ∧ ∀ b (l : List Nat), H b = some (.lst (l.map nV)) → r ≠ b := by
  have e := h.row i c r hi hr
  exact ⟨ne_of e h.obj (by intro z; cases z), ne_of e h.cards (row_ne_ints h.wf c _), ne_of e h.holes (by intro z; cases z), ne_of e h.items (row_ne_cells h.wf c _), ne_of e h.lost (by intro z; cases z), fun b l q => ne_of e q (row_ne_ints h.wf c l)⟩
theorem FileG.setRow {C : Addr} {H : Hp} {a : Addr} {y : Lay} {s s' : Vbenag.State} {ls : List Nat} (h : FileG C H a y s ls) (hw : Wf s') {i c : Nat} {r : Addr} (hi : (Vbenag.used s)[i]? = some c) (hr : y.rows[i]? = some r)
    (et : s'.terms = s.terms) (ep : s'.places = s.places) (ei : s'.items = s.items) (ed : ∀ d, d ≠ c → rowV s' d = rowV s d) :
    FileG C (upd H r (.lst (rowV s' c))) a y s' ls ∧ Chg a y y H (upd H r (.lst (rowV s' c))) := by
  obtain ⟨n1, n2, n3, n4, n5, n6⟩ := h.rowNe hi hr
  have eu : Vbenag.used s' = Vbenag.used s := by rw [used_eq, used_eq, et]
  refine ⟨⟨hw, ?_, ?_, ?_, ?_, fun j d q hj hq => ?_, h.rnd, ?_, ?_, fun p hp => ?_, fun p b hp => ?_, ?_, ?_⟩, Chg.of rfl rfl (fun b o e n => ?_) (fun b hb => .inl hb) fun b o e => ?_⟩
  · rw [upd_ne n1.symm, et, ep]; exact h.obj
  · rw [upd_ne n2.symm, eu]; exact h.cards
  · rw [upd_ne n3.symm, eu]; exact h.holes
  · rw [eu]; exact h.rlen
  · rw [eu] at hj
    by_cases ej : j = i
    · subst ej
      have e1 : q = r := Option.some.inj (hq.symm.trans hr)
      have e2 : d = c := Option.some.inj (hj.symm.trans hi)
      subst e1
      subst e2
      exact upd_same
    · have e1 : q ≠ r := fun z => ej (nd_ix h.rnd hq (by rw [z]; exact hr))
      have e2 : d ≠ c := fun z => ej (nd_ix (inc_used s).nodup hj (by rw [z]; exact hi))
      rw [upd_ne e1, ed d e2]
      exact h.row j d q hj hq
  · rw [upd_ne n4.symm]; exact h.items
  · rw [ep]; exact h.clen
  · rw [ei]; exact h.cellN p hp
  · obtain ⟨l, h1, h2⟩ := h.cellS p b hp
    exact ⟨l, by rw [ei]; exact h1, by rw [upd_ne (n6 b l h2).symm]; exact h2⟩
  · rw [upd_ne n5.symm]; exact h.lost
  · exact h.losP
  · rw [upd_ne (fun z => n (by rw [z]; exact List.mem_cons_of_mem _ (List.mem_cons_of_mem _ (List.mem_cons_of_mem _ (List.mem_cons_of_mem _ (List.mem_of_getElem? hr))))))]
    exact e
  · by_cases z : b = r
    · exact ⟨_, by rw [z]; exact upd_same⟩
    · exact ⟨o, by rw [upd_ne z]; exact e⟩
theorem hole_toggle {s : Vbenag.State} (h : Wf s) {c : Nat} (hc : c < 16) (p d x : Nat) :
    Vbenag.isHole { s with cards := Vbenag.toggled s.cards c p } d x = if d = c ∧ x = p then !Vbenag.isHole s d x else Vbenag.isHole s d x := by
  show ((Vbenag.toggled s.cards c p).getD d []).contains x = _
  by_cases e : d = c
  · subst e
    rw [toggled_at p (by rw [h.cl]; exact hc)]
    have q := mem_toggle (h.inc d) p x
    by_cases ex : x = p
    · subst ex
      rw [if_pos (show d = d ∧ x = x from ⟨rfl, rfl⟩)]
      rw [if_pos rfl] at q
      rw [Bool.eq_iff_iff, List.contains_iff_mem, q]
      show _ ↔ (!(s.cards.getD d []).contains x) = true
      simp
    · rw [if_neg (show ¬ (d = d ∧ x = p) from fun z => ex z.2)]
      rw [if_neg ex] at q
      rw [Bool.eq_iff_iff, List.contains_iff_mem, q]
      exact List.contains_iff_mem.symm
  · rw [toggled_ne p e, if_neg fun z => e z.1]
    rfl
theorem set_map_range {α : Type} (f g : Nat → α) (n p : Nat) (h : ∀ x, x ≠ p → g x = f x) : ((List.range n).map f).set p (g p) = (List.range n).map g := by
  apply List.ext_getElem?
  intro k
  rw [List.getElem?_map]
  by_cases e : k = p
  · subst e
    by_cases hk : k < n
    · rw [List.getElem?_set_self (by rw [List.length_map, List.length_range]; exact hk), List.getElem?_range hk]
      rfl
    · rw [List.getElem?_eq_none (by rw [List.length_set, List.length_map, List.length_range]; omega), List.getElem?_eq_none (by rw [List.length_range]; omega)]
      rfl
  · rw [List.getElem?_set_ne (fun z => e z.symm), List.getElem?_map]
    by_cases hk : k < n
    · rw [List.getElem?_range hk]
      show some (f k) = some (g k)
      rw [h k e]
    · rw [List.getElem?_eq_none (by rw [List.length_range]; omega)]
      rfl
theorem row_toggle {s : Vbenag.State} (h : Wf s) {c p : Nat} (hc : c < 16) : (rowV s c).set p (.bl (!Vbenag.isHole s c p)) = rowV { s with cards := Vbenag.toggled s.cards c p } c := by
  have e : V.bl (!Vbenag.isHole s c p) = V.bl (Vbenag.isHole { s with cards := Vbenag.toggled s.cards c p } c p) := by
    rw [hole_toggle h hc, if_pos ⟨rfl, rfl⟩]
  unfold rowV
  rw [e]
  exact set_map_range (fun x => V.bl (Vbenag.isHole s c x)) (fun x => V.bl (Vbenag.isHole { s with cards := Vbenag.toggled s.cards c p } c x)) s.places p fun x hx => by
    show V.bl _ = V.bl _
    rw [hole_toggle h hc, if_neg fun z => hx z.2]
theorem row_toggle_ne {s : Vbenag.State} (h : Wf s) {c p d : Nat} (hc : c < 16) (hd : d ≠ c) : rowV { s with cards := Vbenag.toggled s.cards c p } d = rowV s d := by
  unfold rowV
  exact List.map_congr_left fun x _ => by rw [hole_toggle h hc, if_neg fun z => hd z.1]
theorem Wf.toggle {s : Vbenag.State} (h : Wf s) {c p : Nat} (hp : p < s.places) (hc : c ∉ s.lost) : Wf { s with cards := Vbenag.toggled s.cards c p } := by
  have hP := punched_inc hp [c] s.cards fun c => ⟨h.inc c, h.lt c⟩
  refine ⟨h.t1, h.t11, h.p1, h.p40, ?_, fun c => (hP c).1, fun c => (hP c).2, h.lostI, h.lostU, h.lost4, fun d hd => ?_, h.il, h.it⟩
  · show (Vbenag.toggled s.cards _ _).length = 16
    rw [toggled_len]; exact h.cl
  · show (Vbenag.toggled s.cards _ _).getD d [] = []
    rw [toggled_ne _ (fun e => hc (by rw [← e]; exact hd))]
    exact h.lostE d hd
section
variable {P : Program} {w : World} {K : PySem.W.Frag} {mg : Str → Option Value} {base : Heap} {C tc pc : Addr}
def spTurnHole (C : Addr) : Sp := fun vs H Q _ => ∃ (a : Addr) (y : Lay) (s : Vbenag.State) (ls : List Nat) (c p : Nat), vs = [.ref a, nV c, nV p] ∧ FileG C H a y s ls ∧ c ∈ Vbenag.used s ∧ c ∉ s.lost ∧ p < s.places ∧
  ∀ H', FileG C H' a y { s with cards := Vbenag.toggled s.cards c p } ls → Chg a y y H H' → Q .non H'
theorem sc_turn_hole : FnScope ["self", "card", "place"] ["self", "card", "place"] (defScope m_turn_hole) := ⟨rfl, rfl, rfl, by decide +kernel, rfl, by decide +kernel, by decide +kernel⟩
theorem ixN_nat {n j : Nat} (h : j < n) : ixN n (j : Int) = some j := by
  unfold ixN
  rw [if_pos (by omega), if_pos (by omega)]
  rfl
theorem ok_turn_hole {f : Addr} {fd : FuncData} (F : Fun K "turn_hole" "CardFile.turn_hole" m_turn_hole f fd) (T : Txt K mg C tc pc) : FnOk P w K mg base CX0 1 f fd ["self", "card", "place"] (spTurnHole C) := by
  refine F.ok sc_turn_hole (fun vs H Q E h => ?_) (fun cdv A outer s H vs Q E hr h => ?_)
  · obtain ⟨a, y, s, ls, c, p, rfl, _⟩ := h
    rfl
  · obtain ⟨a, y, st, ls, c, p, rfl, hF, hc, hl, hp, k⟩ := h
    have hu := hu_of hr
    refine ⟨_, pss_one (ps_asg (pe_not (pe_ix ix_list (pe_dget hu (pe_fld (pv 0) rfl) (pv 1) (fun _ _ => rfl)) (pv 2) (fun _ _ => rfl)))
      (pg_sub (pe_dget hu (pe_fld (pv 0) rfl) (pv 1) (fun _ _ => rfl)) (pv 2) set_list)), ?_⟩
    obtain ⟨i, r, hi, hr', hv, hrow⟩ := hF.at hc
    have hD : DGet H y.hh (kV (keyN c)) (some (.ref r)) := hv ▸ DGet.k (k := keyN c) hF.holes
    refine ⟨_, rfl, a, C, _, _, _, rfl, hF.obj, T.cl, T.nH, rfl, _, rfl, y.hh, .ref r, rfl, hD, _, rfl, r, _, _, _, rfl, rfl, SqL.of hrow, atI_nat (row_at hp), _, rfl,
      _, rfl, a, C, _, _, _, rfl, hF.obj, T.cl, T.nH, rfl, _, rfl, y.hh, .ref r, rfl, hD, _, rfl, r, _, _, p, rfl, rfl, hrow, ixN_nat (by rw [row_len]; exact hp), ?_⟩
    have hc16 := used_lt hc
    rw [row_toggle hF.wf hc16]
    obtain ⟨h1, h2⟩ := hF.setRow (hF.wf.toggle hp hl) hi hr' rfl rfl rfl (fun d hd => row_toggle_ne hF.wf hc16 hd)
    exact k _ h1 h2
def chk (T : Nat) : Int → List Int → Bool
  | _, [] => true
  | b, n :: r => if n ≤ b then false else if (T : Int) ≤ n then false else chk T n r
theorem chk_rising (T : Nat) : ∀ (l : List Int) (b : Int), -1 ≤ b → (chk T b l = true ↔ (∀ x ∈ l, b < x) ∧ l.Pairwise (· < ·) ∧ ∀ x ∈ l, 0 ≤ x ∧ x < (T : Int))
  | [], b, _ => by simp [chk]
  | n :: r, b, hb => by
    unfold chk
    by_cases h1 : n ≤ b
    · rw [if_pos h1]
      constructor
      · intro h; cases h
      · rintro ⟨h, _⟩
        have := h n (List.mem_cons_self ..)
        omega
    · rw [if_neg h1]
      by_cases h2 : (T : Int) ≤ n
      · rw [if_pos h2]
        constructor
        · intro h; cases h
        · rintro ⟨_, _, h⟩
          have := h n (List.mem_cons_self ..)
          omega
      · rw [if_neg h2, chk_rising T r n (by omega)]
        constructor
        · rintro ⟨a1, a2, a3⟩
          refine ⟨fun x hx => ?_, List.pairwise_cons.mpr ⟨a1, a2⟩, fun x hx => ?_⟩
          · rcases List.mem_cons.mp hx with e | hx
            · omega
            · have := a1 x hx
              omega
          · rcases List.mem_cons.mp hx with e | hx
            · rw [e]; omega
            · exact a3 x hx
        · rintro ⟨a1, a2, a3⟩
          exact ⟨(List.pairwise_cons.mp a2).1, (List.pairwise_cons.mp a2).2, fun x hx => a3 x (List.mem_cons_of_mem _ hx)⟩
theorem all_iff (l : List Int) (f : Int → Bool) (p : Int → Prop) (h : ∀ x, f x = true ↔ p x) : l.all f = true ↔ ∀ x ∈ l, p x := by
  rw [List.all_eq_true]
  exact ⟨fun q x hx => (h x).mp (q x hx), fun q x hx => (h x).mpr (q x hx)⟩
theorem rising_iff (l : List Int) : Vbenag.rising l = true ↔ l.Pairwise (· < ·) := ⟨rising_inc, inc_rising⟩
theorem chk_is (T : Nat) (l : List Int) (f : Int → Bool) (hf : ∀ x, f x = (decide (0 ≤ x) && decide (x < (T : Int)))) : (Vbenag.rising l && l.all f) = chk T (-1) l := by
  rw [Bool.eq_iff_iff, chk_rising T l (-1) (by omega), Bool.and_eq_true, rising_iff, all_iff l f (fun x => 0 ≤ x ∧ x < (T : Int)) fun x => by rw [hf, Bool.and_eq_true, decide_eq_true_eq, decide_eq_true_eq]]
  constructor
  · rintro ⟨h1, h2⟩
    exact ⟨fun x hx => by have := h2 x hx; omega, h1, h2⟩
  · rintro ⟨_, h1, h2⟩
    exact ⟨h1, h2⟩
theorem drop_at {α : Type} {l : List α} {i : Nat} {x : α} (h : l[i]? = some x) : l.drop i = x :: l.drop (i + 1) := by
  obtain ⟨h1, h2⟩ := List.getElem?_eq_some_iff.mp h
  rw [List.drop_eq_getElem_cons h1, h2]
def spRising (K : PySem.W.Frag) : Sp := fun vs H Q _ => ∃ (b : Addr) (ns : List Int) (T : Nat), vs = [.ref b, nV T] ∧ SqL K H b (ns.map V.int) ∧ Q (.bl (chk T (-1) ns)) H
theorem sc_rising : FnScope ["numbers", "limit", "before", "number"] ["numbers", "limit"] (defScope s_are_rising_below) := ⟨rfl, rfl, rfl, by decide +kernel, rfl, by decide +kernel, by decide +kernel⟩
theorem ok_rising {f : Addr} {fd : FuncData} (F : Fun K "are_rising_below" "are_rising_below" s_are_rising_below f fd) (T : Txt K mg C tc pc) : FnOk P w K mg base CX0 1 f fd ["numbers", "limit"] (spRising K) := by
  refine F.ok sc_rising (fun vs H Q E h => ?_) (fun cdv A outer s H vs Q E hr h => ?_)
  · obtain ⟨b, ns, t, rfl, _⟩ := h
    rfl
  · obtain ⟨b, ns, t, rfl, hS, k⟩ := h
    have nd := sc_rising.nd
    refine ⟨_, pss_cons (ps_set (i := 2) nd rfl (Or.inl rfl) (pe_un un_neg pe_int))
      (pss_cons (ps_for PassesOwn.never rfl (pi_list (pv 0)) (pg_name (i := 3) nd rfl (Or.inl rfl))
        (pss_cons (ps_if (PW.pt (pw_or (pt_cmpR op_le (pv 3) (pv 2) (nomark _)) (pw_or1 (pt_cmpR op_ge (pv 3) (pv 1) (nomark _)))))
          (pss_one (ps_ret pe_bl)) pss_nil)
        (pss_one (ps_set (i := 2) nd rfl (Or.inl rfl) (pv 3)))))
      (pss_one (ps_ret pe_bl))), ?_⟩
    refine ⟨_, rfl, ?_⟩
    refine ⟨_, rfl, b, rfl, ⟨_, hS⟩, for_list (K := K) (a := b) (xs := ns.map V.int) (fun i σ H' => ∃ (bf : Int) (v : Option V), σ = [some (.ref b), some (nV t), some (.int bf), v] ∧ H' = H ∧ chk t (-1) ns = chk t bf (ns.drop i))
      ⟨-1, none, rfl, rfl, rfl⟩ (fun i σ H' _ ⟨_, _, _, e, _⟩ => by rw [e]; exact hS) ?_ ?_⟩
    · rintro i z σ H' hi ⟨bf, v, rfl, rfl, hk⟩
      obtain ⟨n, hn, rfl⟩ := get_map hi
      rw [drop_at hn] at hk
      have hk : chk t (-1) ns = if n ≤ bf then false else if (t : Int) ≤ n then false else chk t n (ns.drop (i + 1)) := hk
      refine ⟨_, rfl, _, rfl, _, _, rfl, rfl, _, rfl, ?_⟩
      refine ite2 (fun q => ?_) fun q => ?_
      · rw [if_pos (of_decide_eq_true q)] at hk
        rw [hk] at k
        exact iteT k
      · rw [if_neg fun z => q (decide_eq_true z)] at hk
        refine ⟨_, rfl, _, rfl, _, _, rfl, rfl, _, rfl, ?_⟩
        refine ite2 (fun q => ?_) fun q => ?_
        · rw [if_pos (of_decide_eq_true q)] at hk
          rw [hk] at k
          exact k
        · rw [if_neg fun z => q (decide_eq_true z)] at hk
          exact ⟨_, rfl, n, _, rfl, rfl, hk⟩
    · rintro σ H' ⟨bf, v, rfl, rfl, hk⟩
      rw [List.length_map, List.drop_length] at hk
      rw [hk] at k
      exact k
def spAreTerms (K : PySem.W.Frag) (C : Addr) : Sp := fun vs H Q _ => ∃ (a b : Addr) (y : Lay) (s : Vbenag.State) (ns : List Int), vs = [.ref a, .ref b] ∧ FileAt C H a y s ∧ SqL K H b (ns.map V.int) ∧ Q (.bl (Vbenag.isTerms s ns)) H
theorem sc_are_terms : FnScope ["self", "numbers"] ["self", "numbers"] (defScope m_are_terms) := ⟨rfl, rfl, rfl, by decide +kernel, rfl, by decide +kernel, by decide +kernel⟩
theorem ok_are_terms {f : Addr} {fd : FuncData} (F : Fun K "are_terms" "CardFile.are_terms" m_are_terms f fd) (T : Txt K mg C tc pc)
    (GR : GOk P w K mg base "are_rising_below" 1 ["numbers", "limit"] (spRising K)) : FnOk P w K mg base CX0 2 f fd ["self", "numbers"] (spAreTerms K C) := by
  refine F.ok sc_are_terms (fun vs H Q E h => ?_) (fun cdv A outer s H vs Q E hr h => ?_)
  · obtain ⟨a, b, y, s, ns, rfl, _⟩ := h
    rfl
  · obtain ⟨a, b, y, st, ns, rfl, hF, hS, k⟩ := h
    refine ⟨_, pss_one (ps_ret (pe_g GR hr rfl (pa_cons (pv 1) (pa_cons (pe_fld (pv 0) rfl) pa_nil)))), ?_⟩
    have e0 : Vbenag.isTerms st ns = chk st.terms (-1) ns := chk_is st.terms ns _ fun x => between_eq x st.terms
    rw [e0] at k
    exact ⟨_, rfl, _, rfl, a, C, _, _, _, rfl, hF.obj, T.cl, T.nT, rfl, b, ns, st.terms, rfl, hS, k⟩
def spArePlaces (K : PySem.W.Frag) (C : Addr) : Sp := fun vs H Q _ => ∃ (a b : Addr) (y : Lay) (s : Vbenag.State) (ns : List Int), vs = [.ref a, .ref b] ∧ FileAt C H a y s ∧ SqL K H b (ns.map V.int) ∧ Q (.bl (Vbenag.rising ns && ns.all (Vbenag.isPlace s))) H
theorem sc_are_places : FnScope ["self", "numbers"] ["self", "numbers"] (defScope m_are_places) := ⟨rfl, rfl, rfl, by decide +kernel, rfl, by decide +kernel, by decide +kernel⟩
theorem ok_are_places {f : Addr} {fd : FuncData} (F : Fun K "are_places" "CardFile.are_places" m_are_places f fd) (T : Txt K mg C tc pc)
    (GR : GOk P w K mg base "are_rising_below" 1 ["numbers", "limit"] (spRising K)) : FnOk P w K mg base CX0 2 f fd ["self", "numbers"] (spArePlaces K C) := by
  refine F.ok sc_are_places (fun vs H Q E h => ?_) (fun cdv A outer s H vs Q E hr h => ?_)
  · obtain ⟨a, b, y, s, ns, rfl, _⟩ := h
    rfl
  · obtain ⟨a, b, y, st, ns, rfl, hF, hS, k⟩ := h
    refine ⟨_, pss_one (ps_ret (pe_g GR hr rfl (pa_cons (pv 1) (pa_cons (pe_fld (pv 0) rfl) pa_nil)))), ?_⟩
    have e0 : (Vbenag.rising ns && ns.all (Vbenag.isPlace st)) = chk st.places (-1) ns := chk_is st.places ns _ fun x => between_eq x st.places
    rw [e0] at k
    exact ⟨_, rfl, _, rfl, a, C, _, _, _, rfl, hF.obj, T.cl, T.nP, rfl, b, ns, st.places, rfl, hS, k⟩
end
end Hc
set_option Elab.async false
set_option linter.all false
set_option maxRecDepth 100000
set_option maxHeartbeats 4000000
namespace Hc
open PySem PySem.Spec PyProof.Rows L2
theorem flat_rep {α : Type} (x : α) : ∀ n : Nat, (List.replicate n [x]).flatten = List.replicate n x
  | 0 => rfl
  | n + 1 => by
    rw [List.replicate_succ, List.flatten_cons, flat_rep x n, List.replicate_succ]
    rfl
theorem sorted_cast {l : List Nat} (hn : l.Nodup) {ms : List Int} (hp : ms.Perm (l.map fun n : Nat => (n : Int))) (hs : ms.Pairwise (· ≤ ·)) : ms = (VbenCore.sortBy ltb l).map fun n : Nat => (n : Int) := by
  have pos : ∀ x ∈ ms, ((x.toNat : Nat) : Int) = x := fun x hx => by
    obtain ⟨n, _, rfl⟩ := List.mem_map.mp (hp.mem_iff.mp hx)
    rfl
  have e1 : (ms.map Int.toNat).Perm l := by
    have := hp.map Int.toNat
    rw [List.map_map] at this
    have e : (Int.toNat ∘ fun n : Nat => (n : Int)) = id := by funext n; rfl
    rw [e, List.map_id] at this
    exact this
  have e2 : (ms.map Int.toNat).Pairwise (· ≤ ·) := List.pairwise_map.mpr (List.Pairwise.imp_of_mem (fun {a b} ha hb q => by have := pos a ha; have := pos b hb; omega) hs)
  rw [← sorted_is hn e1 e2, List.map_map]
  conv => lhs; rw [← List.map_id ms]
  exact List.map_congr_left fun x hx => (pos x hx).symm
theorem used_sort : ∀ t, t < 12 → VbenCore.sortBy ltb ([0, 1, 2, 4, 8] ++ Vbenag.TERMCARDS.take t) = usedT t ∧ ([0, 1, 2, 4, 8] ++ Vbenag.TERMCARDS.take t).Nodup := by decide
theorem map_nV (l : List Nat) : (l.map fun n : Nat => (n : Int)).map V.int = l.map nV := by
  rw [List.map_map]
  rfl
theorem cut_take {xs : List V} {t : Nat} (h : t ≤ xs.length) : cutV xs none (some (t : Int)) = xs.take t := by
  unfold cutV
  rw [HT.sIx_none, HT.sIx_nat, List.drop_zero, Nat.sub_zero, Nat.min_eq_left h]
section
variable {P : Program} {w : World} {K : PySem.W.Frag} {mg : Str → Option Value} {base : Heap} {C tc pc : Addr}
def spCardsFor : Sp := fun vs H Q _ => ∃ t : Nat, vs = [nV t] ∧ 1 ≤ t ∧ t ≤ 11 ∧ ∀ H' D, Same H H' → H D = none → H' D = some (.lst ((usedT t).map nV)) → Q (.ref D) H'
theorem sc_cards_for : FnScope ["term_count"] ["term_count"] (defScope s_cards_for) := ⟨rfl, rfl, rfl, by decide +kernel, rfl, by decide +kernel, by decide +kernel⟩
theorem ok_cards_for {f : Addr} {fd : FuncData} (F : Fun K "cards_for" "cards_for" s_cards_for f fd) (T : Txt K mg C tc pc) : FnOk P w K mg base CX0 1 f fd ["term_count"] spCardsFor := by
  refine F.ok sc_cards_for (fun vs H Q E h => ?_) (fun cdv A outer s H vs Q E hr h => ?_)
  · obtain ⟨t, rfl, _⟩ := h
    rfl
  · obtain ⟨t, rfl, h1, h2, k⟩ := h
    obtain ⟨t0, me⟩ := T.even
    refine ⟨_, pss_one (ps_ret (pe_callB cr_sortedT (by rfl) T.sorted (by decide +kernel)
      (pa_cons (pe_op op_catT (pe_op op_catT (pe_tup (pa_cons (pe_gint rfl me) pa_nil)) (pe_gref rfl T.mgP)) (pe_slice (sl_tup.or sl_tupW) (pe_gref rfl T.mgT) po_none (po_some (pv 0)))) pa_nil))), ?_⟩
    refine ⟨(by show 1 ≤ sizeLine; decide), fun p1 n1 => ?_⟩
    refine ⟨p1, pc, _, _, rfl, rfl, SqT.of upd_same, T.pcs _, by simp, (by show 1 + 4 ≤ sizeLine; decide), fun q => absurd q (by simp), fun _ p2 n2 => ?_⟩
    have s1 : Same H (upd H p1 (.tup [.int 0])) := same_new n1
    have s2 : Same H (upd (upd H p1 (.tup [.int 0])) p2 (.tup ([V.int 0] ++ [1, 2, 4, 8].map nV))) := s1.trans (same_new n2)
    have fin : ∀ (b : Addr) (H3 : Hp), Same (upd (upd H p1 (.tup [.int 0])) p2 (.tup ([V.int 0] ++ [1, 2, 4, 8].map nV))) H3 → SqT K H3 b ((Vbenag.TERMCARDS.take t).map nV) →
        rCatT K (.ref p2) (.ref b) H3 (fun v H4 => tNil (start ["term_count"] [nV t]) H4 fun xs H5 => rSortedT K (v :: xs) H5 Q) := by
      intro b H3 s3 hb
      have hlt : (Vbenag.TERMCARDS.take t).length = t := by
        rw [List.length_take]
        show min t 11 = t
        omega
      refine ⟨p2, b, _, _, rfl, rfl, SqT.of (s3 _ _ upd_same), hb, by simp, ?_, fun q => ?_, fun _ p3 n3 => ?_⟩
      · rw [List.length_map, hlt, sizeLine_eq]
        show 5 + t ≤ _
        omega
      · have := congrArg List.length q
        rw [List.length_map, hlt] at this
        simp at this
        omega
      · refine ⟨p3, (([0, 1, 2, 4, 8] ++ Vbenag.TERMCARDS.take t).map fun n : Nat => (n : Int)), rfl, ?_, ?_, fun ns' p hp hs hn => ?_⟩
        · rw [map_nV, List.map_append]
          exact SqT.of upd_same
        · rw [List.length_map, List.length_append, hlt]
          show 5 + t < 64
          omega
        · have hu := used_sort t (by omega)
          have e := sorted_cast hu.2 hp hs
          rw [hu.1] at e
          rw [e, map_nV]
          have s4 : Same H (upd H3 p3 (.tup (([V.int 0] ++ [1, 2, 4, 8].map nV) ++ (Vbenag.TERMCARDS.take t).map nV))) := (s2.trans s3).trans (same_new n3)
          exact k _ p (s4.trans (same_new hn)) (s4.free hn) upd_same
    have hT11 : (Vbenag.TERMCARDS.map nV).length = 11 := rfl
    refine ⟨_, rfl, _, rfl, ?_⟩
    by_cases ht : t = 11
    · subst ht
      exact .inr ⟨tc, _, rfl, T.tcs _, rfl, rfl, fin tc _ (Same.refl _) (T.tcs _)⟩
    · refine .inl ⟨tc, _, rfl, T.tcs _, fun q => ?_, fun p3 n3 => ?_⟩
      · have := q.2
        rw [HT.sIx_nat] at this
        rw [hT11] at this
        omega
      · rw [cut_take (by rw [hT11]; omega), ← List.map_take]
        exact fin p3 _ (same_new n3) (SqT.of upd_same)
end
end Hc
set_option Elab.async false
set_option linter.all false
set_option maxRecDepth 100000
set_option maxHeartbeats 4000000
namespace Hc
open PySem PySem.Spec PyProof.Rows L2
theorem nodup_set {α : Type} {p : α} : ∀ {l : List α} {i : Nat}, l.Nodup → p ∉ l → (l.set i p).Nodup
  | [], _, h, _ => h
  | a :: l, 0, h, hp => List.nodup_cons.mpr ⟨fun q => hp (List.mem_cons_of_mem _ q), (List.nodup_cons.mp h).2⟩
  | a :: l, i + 1, h, hp => by
    have h' := List.nodup_cons.mp h
    refine List.nodup_cons.mpr ⟨fun q => ?_, nodup_set h'.2 fun q => hp (List.mem_cons_of_mem _ q)⟩
    rcases List.mem_or_eq_of_mem_set q with z | z
    · exact h'.1 z
    · exact hp (by rw [← z]; exact List.mem_cons_self ..)
theorem rep_row {s : Vbenag.State} {c : Nat} (h : s.cards.getD c [] = []) : rowV s c = List.replicate s.places (.bl false) := by
  have e : ∀ p, Vbenag.isHole s c p = false := fun p => by
    unfold Vbenag.isHole
    rw [h]
    rfl
  unfold rowV
  apply List.ext_getElem?
  intro k
  rw [List.getElem?_map, List.getElem?_replicate]
  by_cases hk : k < s.places
  · rw [List.getElem?_range hk, if_pos hk, Option.map_some, e]
  · rw [List.getElem?_eq_none (by rw [List.length_range]; omega), if_neg hk]
    rfl
theorem row_same {s s' : Vbenag.State} {d : Nat} (ep : s'.places = s.places) (e : s'.cards.getD d [] = s.cards.getD d []) : rowV s' d = rowV s d := by
  unfold rowV
  rw [ep]
  exact List.map_congr_left fun p _ => by unfold Vbenag.isHole; rw [e]
def loseS (s : Vbenag.State) (c : Nat) : Vbenag.State := { s with cards := s.cards.set c [], lost := VbenCore.sortBy ltb (c :: s.lost) }
theorem set_getD {cards : List (List Nat)} {c d : Nat} : (cards.set c []).getD d [] = if d = c then [] else cards.getD d [] := by
  by_cases e : d = c
  · subst e
    rw [if_pos rfl, List.getD_eq_getElem?_getD]
    by_cases hl : d < cards.length
    · rw [List.getElem?_set_self hl]; rfl
    · rw [List.getElem?_eq_none (by rw [List.length_set]; omega)]; rfl
  · rw [if_neg e, List.getD_eq_getElem?_getD, List.getElem?_set_ne (Ne.symm e), ← List.getD_eq_getElem?_getD]
theorem Wf.lose {s : Vbenag.State} (h : Wf s) {c : Nat} (hu : c ∈ Vbenag.used s) (hc : c ∉ s.lost) (h4 : s.lost.length < 4) : Wf (loseS s c) := by
  have hn : (c :: s.lost).Nodup := List.nodup_cons.mpr ⟨hc, h.lostI.nodup⟩
  refine ⟨h.t1, h.t11, h.p1, h.p40, ?_, fun d => ?_, fun d => ?_, inc_sortBy hn, fun d hd => ?_, ?_, fun d hd => ?_, h.il, h.it⟩
  · show (s.cards.set _ _).length = 16
    rw [List.length_set]; exact h.cl
  · show Inc ((s.cards.set _ _).getD d [])
    rw [set_getD]
    split
    · exact List.Pairwise.nil
    · exact h.inc d
  · show ∀ x ∈ (s.cards.set _ _).getD d [], x < s.places
    rw [set_getD]
    split
    · intro x hx; nomatch hx
    · exact h.lt d
  · rcases List.mem_cons.mp ((mem_sortBy hn d).mp hd) with e | hd
    · rw [e]; exact hu
    · exact h.lostU d hd
  · show (VbenCore.sortBy ltb (c :: s.lost)).length ≤ 4
    rw [len_sortBy hn, List.length_cons]
    omega
  · show (s.cards.set _ _).getD d [] = []
    rw [set_getD]
    split
    · rfl
    · rename_i e
      rcases List.mem_cons.mp ((mem_sortBy hn d).mp hd) with e' | hd
      · exact absurd e' e
      · exact h.lostE d hd
theorem sortBy_perm {l : List Nat} (h : l.Nodup) : (VbenCore.sortBy ltb l).Perm l := by
  have key : ∀ x (l : List Nat), (VbenCore.insertBy ltb x l).Perm (x :: l) := by
    intro x l
    induction l with
    | nil => exact List.Perm.refl _
    | cons z l ih =>
      unfold VbenCore.insertBy
      split
      · exact List.Perm.refl _
      · exact (ih.cons z).trans (List.Perm.swap x z l)
  have fold : ∀ (l acc : List Nat), (l.foldl (fun a x => VbenCore.insertBy ltb x a) acc).Perm (l ++ acc) := by
    intro l
    induction l with
    | nil => intro acc; exact List.Perm.refl _
    | cons x l ih =>
      intro acc
      refine (ih _).trans ?_
      refine ((key x acc).append_left l).trans ?_
      exact List.perm_middle
  have := fold l []
  rw [List.append_nil] at this
  exact this
section
variable {P : Program} {w : World} {K : PySem.W.Frag} {mg : Str → Option Value} {base : Heap} {C tc pc : Addr}
def spTakeOut (C : Addr) : Sp := fun vs H Q _ => ∃ (a : Addr) (y : Lay) (s : Vbenag.State) (c : Nat), vs = [.ref a, nV c] ∧ FileAt C H a y s ∧ c ∈ Vbenag.used s ∧ c ∉ s.lost ∧ s.lost.length < 4 ∧
  ∀ H' y', FileAt C H' a y' (loseS s c) → Chg a y y' H H' → Q .non H'
theorem sc_take_out : FnScope ["self", "card"] ["self", "card"] (defScope m_take_out) := ⟨rfl, rfl, rfl, by decide +kernel, rfl, by decide +kernel, by decide +kernel⟩
theorem ok_take_out {f : Addr} {fd : FuncData} (F : Fun K "take_out" "CardFile.take_out" m_take_out f fd) (T : Txt K mg C tc pc) : FnOk P w K mg base CX0 1 f fd ["self", "card"] (spTakeOut C) := by
  refine F.ok sc_take_out (fun vs H Q E h => ?_) (fun cdv A outer s H vs Q E hr h => ?_)
  · obtain ⟨a, y, s, c, rfl, _⟩ := h
    rfl
  · obtain ⟨a, y, st, c, rfl, hF, hc, hl, h4, k⟩ := h
    have hu := hu_of hr
    refine ⟨_, pss_cons (ps_dput hu (pe_fld (pv 0) rfl) (pv 1) pe_bl rfl)
      (pss_one (ps_dput hu (pe_fld (pv 0) rfl) (pv 1) (pe_op op_rep (pe_lst (pa_cons pe_bl pa_nil)) (pe_fld (pv 0) rfl)) rfl)), ?_⟩
    have hll : y.los.length < 1000 := by rw [hF.losP.length_eq]; omega
    have hd1 : (lostD y.los).length = y.los.length := List.length_map ..
    have hnl : c ∉ y.los := fun q => hl (hF.losP.mem_iff.mp q)
    have e1 : putK (lostD y.los) (keyN c) (.bl true) = lostD (y.los ++ [c]) := by
      rw [putK_new _ (by rw [valV_lost, if_neg hnl])]
      unfold lostD
      rw [List.map_append]
      rfl
    refine ⟨_, rfl, a, C, _, _, _, rfl, hF.obj, T.cl, T.nL, rfl, _, rfl, y.hl, _, rfl, DPut.k (k := keyN c) hF.lost (by rw [hd1]; exact small1000 (Nat.le_of_lt hll)), ?_⟩
    rw [e1]
    have na : a ≠ y.hl := ne_of hF.obj hF.lost (by intro z; cases z)
    have nh : y.hh ≠ y.hl := ne_of hF.holes hF.lost (holes_ne_lost hF.wf hF.rlen _)
    have nc : y.hc ≠ y.hl := ne_of hF.cards hF.lost (by intro z; cases z)
    have ni : y.hi ≠ y.hl := ne_of hF.items hF.lost (by intro z; cases z)
    have oH : ∀ b, b ≠ y.hl → upd H y.hl (.dK (lostD (y.los ++ [c]))) b = H b := fun b hb => upd_ne hb
    refine ⟨(by show 1 ≤ sizeLine; decide), fun p1 n1 => ?_⟩
    have o1 : ∀ b o, upd H y.hl (.dK (lostD (y.los ++ [c]))) b = some o → upd (upd H y.hl (.dK (lostD (y.los ++ [c])))) p1 (.lst [.bl false]) b = some o := fun b o e => (same_new n1) b o e
    have hp40 := hF.wf.p40
    refine ⟨_, rfl, a, C, _, _, _, rfl, o1 _ _ ((oH a na).trans hF.obj), T.cl, T.nP, rfl, p1, _, _, rfl, rfl, upd_same, (by omega), (by omega), (by rw [sizeLine_eq]; show 1 * (Int.toNat (st.places : Int)) ≤ _; rw [Int.toNat_natCast]; omega), fun p2 n2 => ?_⟩
    rw [Int.toNat_natCast, flat_rep]
    have s2 : Same (upd H y.hl (.dK (lostD (y.los ++ [c])))) (upd (upd (upd H y.hl (.dK (lostD (y.los ++ [c])))) p1 (.lst [.bl false])) p2 (.lst (List.replicate st.places (.bl false)))) := (same_new n1).trans (same_new n2)
    generalize hH2 : upd (upd (upd H y.hl (.dK (lostD (y.los ++ [c])))) p1 (.lst [.bl false])) p2 (.lst (List.replicate st.places (.bl false))) = H2 at s2 ⊢
    have hp2 : H2 p2 = some (.lst (List.replicate st.places (.bl false))) := by rw [← hH2]; exact upd_same
    have hulen := used_lt1000 hF.wf
    have hd2 : (holesD (Vbenag.used st) y.rows).length < sizeLine := by
      refine small1000 ?_
      unfold holesD
      rw [List.length_map, List.length_zip]
      omega
    have eh : H2 y.hh = some (.dK (holesD (Vbenag.used st) y.rows)) := s2 _ _ ((oH _ nh).trans hF.holes)
    refine ⟨_, rfl, a, C, _, _, _, rfl, s2 _ _ ((oH a na).trans hF.obj), T.cl, T.nH, rfl, _, rfl, y.hh, _, rfl, DPut.k (k := keyN c) eh hd2, ?_⟩
    obtain ⟨i, r, hi, hr', hv, hrow⟩ := hF.at hc
    rw [holes_put (inc_used st).nodup hF.rlen hi]
    have hnone : ∀ b, H b = none → b ≠ y.hl → True := fun _ _ _ => trivial
    have hp2H : H p2 = none := by
      have q : upd H y.hl (.dK (lostD (y.los ++ [c]))) p2 = none := (same_new n1 (o := .lst [.bl false])).free n2
      by_cases z : p2 = y.hl
      · rw [z, upd_same] at q; cases q
      · rw [upd_ne z] at q; exact q
    have na' : a ≠ y.hh := ne_of hF.obj hF.holes (by intro z; cases z)
    have keep : ∀ b o, H b = some o → b ≠ y.hl → b ≠ y.hh → upd H2 y.hh (.dK (holesD (Vbenag.used st) (y.rows.set i p2))) b = some o := fun b o e h1 h2 => by
      rw [upd_ne h2]
      exact s2 _ _ ((oH b h1).trans e)
    have rl : ∀ j q, y.rows[j]? = some q → ∀ d, (Vbenag.used st)[j]? = some d → q ≠ y.hl ∧ q ≠ y.hh := fun j q hq d hd => ⟨ne_of (hF.row j d q hd hq) hF.lost (by intro z; cases z), ne_of (hF.row j d q hd hq) hF.holes (by intro z; cases z)⟩
    have hil : i < y.rows.length := (List.getElem?_eq_some_iff.mp hr').1
    refine k _ { y with rows := y.rows.set i p2, los := y.los ++ [c] } ⟨hF.wf.lose hc hl h4, ?_, ?_, upd_same, ?_, fun j d q hj hq => ?_, ?_, ?_, hF.clen, hF.cellN, fun p b hp => ?_, ?_, ?_⟩ (Chg.of rfl rfl (fun b o e n => ?_) (fun b hb => ?_) fun b o e => ?_)
    · exact keep a _ hF.obj na na'
    · exact keep _ _ hF.cards nc (ne_of hF.cards hF.holes (by intro z; cases z))
    · show (y.rows.set i p2).length = _
      rw [List.length_set]; exact hF.rlen
    · have hj : (Vbenag.used st)[j]? = some d := hj
      have hq : (y.rows.set i p2)[j]? = some q := hq
      by_cases ej : j = i
      · subst ej
        rw [List.getElem?_set_self hil] at hq
        cases hq
        have ed : d = c := Option.some.inj (hj.symm.trans hi)
        subst ed
        rw [upd_ne (ne_of hp2 eh (by intro z; cases z)), hp2, rep_row (s := loseS st d) (c := d) (by show (st.cards.set d []).getD d [] = []; rw [set_getD, if_pos rfl])]
        rfl
      · rw [List.getElem?_set_ne (fun z => ej z.symm)] at hq
        have ed : d ≠ c := fun z => ej (nd_ix (inc_used st).nodup hj (by rw [z]; exact hi))
        rw [row_same (s := st) (s' := loseS st c) (d := d) rfl (by show (st.cards.set c []).getD d [] = _; rw [set_getD, if_neg ed])]
        exact keep q _ (hF.row j d q hj hq) (rl j q hq d hj).1 (rl j q hq d hj).2
    · show (y.rows.set i p2).Nodup
      have hp2n : p2 ∉ y.rows := fun q => by
        obtain ⟨j, hj⟩ := List.getElem?_of_mem q
        have hjl : j < (Vbenag.used st).length := by rw [← hF.rlen]; exact (List.getElem?_eq_some_iff.mp hj).1
        have := hF.row j _ p2 (List.getElem?_eq_getElem hjl) hj
        rw [hp2H] at this
        cases this
      exact nodup_set hF.rnd hp2n
    · exact keep _ _ hF.items ni (ne_of hF.items hF.holes (by intro z; cases z))
    · obtain ⟨l, h1, h2⟩ := hF.cellS p b hp
      exact ⟨l, h1, keep b _ h2 (ne_of h2 hF.lost (by intro z; cases z)) (ne_of h2 hF.holes (by intro z; cases z))⟩
    · rw [upd_ne nh.symm]
      exact s2 _ _ upd_same
    · show (y.los ++ [c]).Perm (VbenCore.sortBy ltb (c :: st.lost))
      have hn : (c :: st.lost).Nodup := List.nodup_cons.mpr ⟨hl, hF.wf.lostI.nodup⟩
      refine List.Perm.trans ?_ (sortBy_perm hn).symm
      exact (List.perm_append_singleton c y.los).trans (hF.losP.cons c)
    · exact keep b o e (fun z => n (by rw [z]; simp [own])) (fun z => n (by rw [z]; simp [own]))
    · have hb : b ∈ a :: y.hh :: y.hi :: y.hl :: y.rows.set i p2 := hb
      simp only [List.mem_cons] at hb
      rcases hb with z | z | z | z | z
      · exact .inl (by rw [z]; simp [own])
      · exact .inl (by rw [z]; simp [own])
      · exact .inl (by rw [z]; simp [own])
      · exact .inl (by rw [z]; simp [own])
      · rcases List.mem_or_eq_of_mem_set z with z | z
        · exact .inl (by simp [own, z])
        · exact .inr (by rw [z]; exact hp2H)
    · by_cases z1 : b = y.hh
      · exact ⟨_, by rw [z1]; exact upd_same⟩
      · by_cases z2 : b = y.hl
        · exact ⟨_, by rw [z2, upd_ne nh.symm]; exact s2 _ _ upd_same⟩
        · exact ⟨o, keep b o e z2 z1⟩
end
end Hc
set_option Elab.async false
set_option linter.all false
set_option maxRecDepth 100000
set_option maxHeartbeats 4000000
namespace Hc
open PySem PySem.Spec PyProof.Rows L2
def fsOk (fs : List (Str × V)) : Prop := fs = [] ∨ ∃ T P hc hh hi hl, fs = fileF T P hc hh hi hl
def fs4 (t p : Nat) (hc hh : Addr) (fs : List (Str × V)) : List (Str × V) := putF "holes" (.ref hh) (putF "cards" (.ref hc) (putF "place_count" (nV p) (putF "term_count" (nV t) fs)))
theorem fs_end {fs : List (Str × V)} (h : fsOk fs) (t p : Nat) (hc hh hi hl : Addr) : putF "lost" (.ref hl) (putF "item_cards" (.ref hi) (fs4 t p hc hh fs)) = fileF t p hc hh hi hl := by
  rcases h with rfl | ⟨T, P, a, b, c, d, rfl⟩
  · rfl
  · rfl
theorem fs_len {fs : List (Str × V)} (h : fsOk fs) : fs.length ≤ 6 := by
  rcases h with rfl | ⟨T, P, a, b, c, d, rfl⟩
  · exact Nat.zero_le _
  · exact Nat.le_refl 6
theorem putF_len (f : Str) (v : V) (fs : List (Str × V)) {n : Nat} (h : fs.length ≤ n) : (putF f v fs).length ≤ n + 1 := Nat.le_trans (length_putF f v fs) (by omega)
theorem fs4_cards {fs : List (Str × V)} {t p : Nat} {hc hh : Addr} : (fs4 t p hc hh fs).lookup ("cards" : Str) = some (.ref hc) := by
  unfold fs4
  rw [lookup_putF, if_neg (by decide +kernel), lookup_putF, if_pos rfl]
theorem fs4_holes {fs : List (Str × V)} {t p : Nat} {hc hh : Addr} : (fs4 t p hc hh fs).lookup ("holes" : Str) = some (.ref hh) := by
  unfold fs4
  rw [lookup_putF, if_pos rfl]
theorem fresh_card (t p c : Nat) : (Vbenag.fresh t p).cards.getD c [] = [] := by
  show (List.replicate 16 ([] : List Nat)).getD c [] = []
  rw [List.getD_eq_getElem?_getD, List.getElem?_replicate]
  split <;> rfl
section
variable {P : Program} {w : World} {K : PySem.W.Frag} {mg : Str → Option Value} {base : Heap} {C tc pc : Addr}
def spSetUp (C : Addr) : Sp := fun vs H Q _ => ∃ (a dx : Addr) (fs : List (Str × V)) (t p : Nat), vs = [.ref a, nV t, nV p] ∧ H a = some (.ins C dx fs) ∧ fsOk fs ∧ 1 ≤ t ∧ t ≤ 11 ∧ 1 ≤ p ∧ p ≤ 40 ∧
  ∀ H' y', FileAt C H' a y' (Vbenag.fresh t p) → (∀ b o, H b = some o → b ≠ a → H' b = some o) → (∀ b ∈ foot a y', b = a ∨ H b = none) → Q .non H'
theorem sc_set_up : FnScope ["self", "term_count", "place_count", "card"] ["self", "term_count", "place_count"] (defScope m_set_up) := ⟨rfl, rfl, rfl, by decide +kernel, rfl, by decide +kernel, by decide +kernel⟩
theorem ok_set_up {f : Addr} {fd : FuncData} (F : Fun K "set_up" "CardFile.set_up" m_set_up f fd) (T : Txt K mg C tc pc)
    (GC : GOk P w K mg base "cards_for" 1 ["term_count"] spCardsFor) : FnOk P w K mg base CX0 2 f fd ["self", "term_count", "place_count"] (spSetUp C) := by
  refine F.ok sc_set_up (fun vs H Q E h => ?_) (fun cdv A outer s H vs Q E hr h => ?_)
  · obtain ⟨a, dx, fs, t, p, rfl, _⟩ := h
    rfl
  · obtain ⟨a, dx, fs, t, p, rfl, hA, hfs, t1, t11, p1, p40, k⟩ := h
    have hu := hu_of hr
    have nd := sc_set_up.nd
    refine ⟨_, pss_cons (ps_fld (pv 0) (pv 1) rfl) (pss_cons (ps_fld (pv 0) (pv 2) rfl) (pss_cons (ps_fld (pv 0) (pe_g GC hr rfl (pa_cons (pv 1) pa_nil)) rfl)
      (pss_cons (ps_fld (pv 0) pe_dnewK rfl)
      (pss_cons (ps_for PassesOwn.never rfl (pi_list (pe_fld (pv 0) rfl)) (pg_name (i := 3) nd rfl (Or.inl rfl))
        (pss_one (ps_dput hu (pe_fld (pv 0) rfl) (pv 3) (pe_op op_rep (pe_lst (pa_cons pe_bl pa_nil)) (pv 2)) rfl)))
      (pss_cons (ps_fld (pv 0) (pe_op op_rep (pe_lst (pa_cons pe_non pa_nil)) (pv 2)) rfl)
      (pss_one (ps_fld (pv 0) pe_dnewK rfl))))))), ?_⟩
    have l0 := fs_len hfs
    have l1 := putF_len "term_count" (nV t) fs l0
    have l2 := putF_len "place_count" (nV p) _ l1
    refine ⟨_, rfl, _, rfl, a, C, dx, _, rfl, hA, T.cl, T.nT, (by omega), ?_⟩
    refine ⟨_, rfl, _, rfl, a, C, dx, _, rfl, upd_same, T.cl, T.nP, (by omega), ?_⟩
    rw [upd_upd]
    refine ⟨_, rfl, t, rfl, t1, t11, fun H1 hc s1 nhc ec => ?_⟩
    have l3 := putF_len "cards" (.ref hc) _ l2
    have nhcH : H hc = none ∧ hc ≠ a := by
      by_cases z : hc = a
      · rw [z, upd_same] at nhc; cases nhc
      · rw [upd_ne z] at nhc; exact ⟨nhc, z⟩
    refine ⟨_, rfl, a, C, dx, _, rfl, s1 _ _ upd_same, T.cl, T.nC, (by omega), fun hh nhh => ?_⟩
    have nhh1 : H1 hh = none ∧ hh ≠ a := by
      by_cases z : hh = a
      · rw [z, upd_same] at nhh; cases nhh
      · rw [upd_ne z] at nhh; exact ⟨nhh, z⟩
    refine ⟨_, rfl, a, C, dx, _, rfl, (by rw [upd_ne nhh1.2.symm]; exact upd_same), T.cl, T.nH, (by omega), ?_⟩
    have hf4 : putF "holes" (.ref hh) (putF "cards" (.ref hc) (putF "place_count" (nV p) (putF "term_count" (nV t) fs))) = fs4 t p hc hh fs := rfl
    rw [hf4]
    have l4 : (fs4 t p hc hh fs).length ≤ 10 := putF_len "holes" (.ref hh) _ l3
    have old : ∀ b o, H b = some o → b ≠ a → upd (upd (upd H1 a (.ins C dx (putF "cards" (.ref hc) (putF "place_count" (nV p) (putF "term_count" (nV t) fs))))) hh (.dK [])) a (.ins C dx (fs4 t p hc hh fs)) b = some o := fun b o e n => by
      have e1 : H1 b = some o := s1 b o (by rw [upd_ne n]; exact e)
      rw [upd_ne n, upd_ne (ne_of_none e1 nhh1.1), upd_ne n]
      exact e1
    have ea : upd (upd (upd H1 a (.ins C dx (putF "cards" (.ref hc) (putF "place_count" (nV p) (putF "term_count" (nV t) fs))))) hh (.dK [])) a (.ins C dx (fs4 t p hc hh fs)) a = some (.ins C dx (fs4 t p hc hh fs)) := upd_same
    have ehh : upd (upd (upd H1 a (.ins C dx (putF "cards" (.ref hc) (putF "place_count" (nV p) (putF "term_count" (nV t) fs))))) hh (.dK [])) a (.ins C dx (fs4 t p hc hh fs)) hh = some (.dK []) := by rw [upd_ne nhh1.2]; exact upd_same
    have ehc : upd (upd (upd H1 a (.ins C dx (putF "cards" (.ref hc) (putF "place_count" (nV p) (putF "term_count" (nV t) fs))))) hh (.dK [])) a (.ins C dx (fs4 t p hc hh fs)) hc = some (.lst ((usedT t).map nV)) := by
      rw [upd_ne nhcH.2, upd_ne (ne_of_none ec nhh1.1), upd_ne nhcH.2]; exact ec
    have nhhH : H hh = none := by
      cases q : H hh with
      | none => rfl
      | some o => rw [s1 hh o (by rw [upd_ne nhh1.2]; exact q)] at nhh1; cases nhh1.1
    generalize upd (upd (upd H1 a (.ins C dx (putF "cards" (.ref hc) (putF "place_count" (nV p) (putF "term_count" (nV t) fs))))) hh (.dK [])) a (.ins C dx (fs4 t p hc hh fs)) = H2 at old ea ehh ehc ⊢
    refine ⟨_, rfl, a, C, dx, _, _, rfl, ea, T.cl, T.nC, fs4_cards, hc, rfl, ⟨_, SqL.of ehc⟩, ?_⟩
    refine for_list (K := K) (a := hc) (xs := (usedT t).map nV) (fun i σ H' => ∃ (v : Option V) (rows : List Addr), σ = [some (.ref a), some (nV t), some (nV p), v] ∧ H' a = some (.ins C dx (fs4 t p hc hh fs)) ∧ H' hc = some (.lst ((usedT t).map nV)) ∧
        H' hh = some (.dK (holesD ((usedT t).take i) rows)) ∧ rows.length = ((usedT t).take i).length ∧ rows.Nodup ∧ (∀ r ∈ rows, H' r = some (.lst (List.replicate p (.bl false))) ∧ H r = none) ∧ ∀ b o, H b = some o → b ≠ a → H' b = some o)
      ⟨none, [], rfl, ea, ehc, ehh, rfl, List.nodup_nil, (fun _ q => nomatch q), old⟩ (fun i σ H' _ ⟨_, _, _, _, e, _⟩ => SqL.of e) ?_ ?_
    · rintro i x σ H' hi ⟨v, rows, rfl, ea', ehc', ehh', hrl, hrn, hrows, old'⟩
      obtain ⟨c, hci, rfl⟩ := get_map hi
      refine ⟨(by show 1 ≤ sizeLine; decide), fun q1 m1 => ?_⟩
      refine ⟨_, rfl, q1, _, _, rfl, rfl, upd_same, (by omega), (by omega), (by rw [sizeLine_eq]; show 1 * (Int.toNat (p : Int)) ≤ _; rw [Int.toNat_natCast]; omega), fun q2 m2 => ?_⟩
      rw [Int.toNat_natCast, flat_rep]
      have s2 : Same H' (upd (upd H' q1 (.lst [.bl false])) q2 (.lst (List.replicate p (.bl false)))) := (same_new m1).trans (same_new m2)
      have eq2 : upd (upd H' q1 (.lst [.bl false])) q2 (.lst (List.replicate p (.bl false))) q2 = some (.lst (List.replicate p (.bl false))) := upd_same
      have nq2 : H' q2 = none := (same_new m1 (o := .lst [.bl false])).free m2
      generalize upd (upd H' q1 (.lst [.bl false])) q2 (.lst (List.replicate p (.bl false))) = H3 at s2 eq2 ⊢
      have hul : (usedT t).length = 5 + t := usedT_len t (by omega)
      have hdl : (holesD ((usedT t).take i) rows).length < sizeLine := by
        refine small1000 ?_
        unfold holesD
        rw [List.length_map, List.length_zip, hrl, Nat.min_self, List.length_take]
        omega
      refine ⟨_, rfl, a, C, dx, _, _, rfl, s2 _ _ ea', T.cl, T.nH, fs4_holes, _, rfl, hh, _, rfl, DPut.k (k := keyN c) (s2 _ _ ehh') hdl, ?_⟩
      have hcn : c ∉ (usedT t).take i := fun q => by
        obtain ⟨j, hj⟩ := List.getElem?_of_mem q
        have hjl := (List.getElem?_eq_some_iff.mp hj).1
        rw [List.length_take] at hjl
        rw [List.getElem?_take_of_lt (by omega)] at hj
        have := nd_ix (((inc_range 16).filter _).nodup : (usedT t).Nodup) hj hci
        omega
      have na : a ≠ hh := ne_of ea' ehh' (by intro z; cases z)
      have nc : hc ≠ hh := ne_of ehc' ehh' (by intro z; cases z)
      refine ⟨some (nV c), rows ++ [q2], rfl, ?_, ?_, ?_, ?_, ?_, fun r hr' => ?_, fun b o e n => ?_⟩
      · rw [upd_ne na]; exact s2 _ _ ea'
      · rw [upd_ne nc]; exact s2 _ _ ehc'
      · rw [upd_same, putK_new _ (holes_no hcn), take_succ_of hci, holes_snoc hrl]
        all_goals rfl
      · rw [take_succ_of hci, List.length_append, List.length_append, hrl]
        rfl
      · refine List.nodup_append.mpr ⟨hrn, List.nodup_cons.mpr ⟨List.not_mem_nil, List.nodup_nil⟩, fun x hx z hz e => ?_⟩
        rw [List.mem_singleton.mp hz] at e
        have := (hrows x hx).1
        rw [e, nq2] at this
        cases this
      · rcases List.mem_append.mp hr' with z | z
        · have q := (hrows r z).1
          rw [upd_ne (ne_of q ehh' (by intro z; cases z))]
          exact ⟨s2 _ _ q, (hrows r z).2⟩
        · rw [List.mem_singleton.mp z, upd_ne (ne_of eq2 (s2 _ _ ehh') (by intro z; cases z))]
          refine ⟨eq2, ?_⟩
          cases w' : H q2 with
          | none => rfl
          | some o =>
            by_cases za : q2 = a
            · rw [za, ea'] at nq2; cases nq2
            · rw [old' q2 o w' za] at nq2; cases nq2
      · have hb : b ≠ hh := fun z => by rw [z, nhhH] at e; cases e
        rw [upd_ne hb]
        exact s2 _ _ (old' b o e n)
    · rintro σ H' ⟨v, rows, rfl, ea', ehc', ehh', hrl, hrn, hrows, old'⟩
      rw [List.length_map, List.take_length] at ehh' hrl
      refine ⟨(by show 1 ≤ sizeLine; decide), fun q1 m1 => ?_⟩
      refine ⟨_, rfl, q1, _, _, rfl, rfl, upd_same, (by omega), (by omega), (by rw [sizeLine_eq]; show 1 * (Int.toNat (p : Int)) ≤ _; rw [Int.toNat_natCast]; omega), fun q2 m2 => ?_⟩
      rw [Int.toNat_natCast, flat_rep]
      have s2 : Same H' (upd (upd H' q1 (.lst [.non])) q2 (.lst (List.replicate p .non))) := (same_new m1).trans (same_new m2)
      have eq2 : upd (upd H' q1 (.lst [.non])) q2 (.lst (List.replicate p .non)) q2 = some (.lst (List.replicate p .non)) := upd_same
      have nq2 : H' q2 = none := (same_new m1 (o := .lst [.non])).free m2
      generalize upd (upd H' q1 (.lst [.non])) q2 (.lst (List.replicate p .non)) = H3 at s2 eq2 ⊢
      refine ⟨_, rfl, a, C, dx, _, rfl, s2 _ _ ea', T.cl, T.nI, (by omega), fun q3 m3 => ?_⟩
      have l5 := putF_len "item_cards" (.ref q2) _ l4
      have n3a : q3 ≠ a := fun z => by rw [z, upd_same] at m3; cases m3
      have m3' : H3 q3 = none := by rw [upd_ne n3a] at m3; exact m3
      refine ⟨_, rfl, a, C, dx, _, rfl, (by rw [upd_ne n3a.symm]; exact upd_same), T.cl, T.nL, (by omega), ?_⟩
      rw [fs_end hfs]
      have keep : ∀ b o, H' b = some o → b ≠ a → upd (upd (upd H3 a (.ins C dx (putF "item_cards" (.ref q2) (fs4 t p hc hh fs)))) q3 (.dK [])) a (.ins C dx (fileF t p hc hh q2 q3)) b = some o := fun b o e n => by
        rw [upd_ne n, upd_ne (ne_of_none (s2 _ _ e) m3'), upd_ne n]
        exact s2 _ _ e
      have freeH : ∀ b, H' b = none → H b = none := fun b e => by
        cases w' : H b with
        | none => rfl
        | some o =>
          by_cases za : b = a
          · rw [za, ea'] at e; cases e
          · rw [old' b o w' za] at e; cases e
      have rp : ∀ c, rowV (Vbenag.fresh t p) c = List.replicate p (.bl false) := fun c => rep_row (s := Vbenag.fresh t p) (fresh_card t p c)
      have cells : (List.replicate p (none : Option Addr)).map cellV = List.replicate p .non := by rw [List.map_replicate]; rfl
      refine k _ ⟨dx, hc, hh, q2, q3, rows, List.replicate p none, []⟩ ⟨Wf.fresh t1 t11 p1 p40, upd_same, ?_, ?_, hrl, fun i c r hi hr' => ?_, hrn, ?_, List.length_replicate, fun i hi => ?_, fun i b hi => ?_, ?_, List.Perm.refl _⟩ (fun b o e n => keep b o (old' b o e n) n) fun b hb => ?_
      · exact keep _ _ ehc' nhcH.2
      · exact keep _ _ ehh' nhh1.2
      · rw [rp c]
        have q := hrows r (List.mem_of_getElem? hr')
        exact keep r _ q.1 (ne_of q.1 ea' (by intro z; cases z))
      · have n2a : q2 ≠ a := fun z => by rw [z, ea'] at nq2; cases nq2
        rw [cells]
        exact (upd_ne n2a).trans ((upd_ne (ne_of_none eq2 m3')).trans ((upd_ne n2a).trans eq2))
      · show (List.replicate p none)[i]? = some none
        have hi : (List.replicate p (none : Option Addr))[i]? = some none := hi
        rw [List.getElem?_replicate] at hi ⊢
        split at hi
        · rename_i z
          rw [if_pos z]
        · cases hi
      · have hi : (List.replicate p (none : Option Addr))[i]? = some (some b) := hi
        rw [List.getElem?_replicate] at hi
        split at hi <;> cases hi
      · rw [upd_ne n3a]; exact upd_same
      · have hb : b ∈ (a :: hh :: q2 :: q3 :: rows) ++ hc :: (List.replicate p (none : Option Addr)).filterMap id := hb
        have hnil : (List.replicate p (none : Option Addr)).filterMap id = [] := List.filterMap_eq_nil_iff.mpr fun x hx => (List.mem_replicate.mp hx).2
        rw [hnil] at hb
        simp only [List.mem_append, List.mem_cons, List.not_mem_nil, or_false] at hb
        rcases hb with (z | z | z | z | z) | z
        · exact .inl z
        · exact .inr (by rw [z]; exact nhhH)
        · exact .inr (by rw [z]; exact freeH _ nq2)
        · exact .inr (by rw [z]; exact freeH _ (s2.free m3'))
        · exact .inr (hrows b z).2
        · exact .inr (by rw [z]; exact nhcH.1)
def spBegin (C : Addr) : Sp := fun vs H Q _ => ∃ (a dx : Addr) (fs : List (Str × V)), vs = [.ref a] ∧ H a = some (.ins C dx fs) ∧ fsOk fs ∧
  ∀ H' y', FileAt C H' a y' Vbenag.start → (∀ b o, H b = some o → b ≠ a → H' b = some o) → (∀ b ∈ foot a y', b = a ∨ H b = none) → Q .non H'
theorem fsOk.no {fs : List (Str × V)} (h : fsOk fs) {m : Str} (hm : ∀ x ∈ (["term_count", "place_count", "cards", "holes", "item_cards", "lost"] : List Str), m ≠ x) : fs.lookup m = none := by
  rcases h with rfl | ⟨_, _, _, _, _, _, rfl⟩
  · rfl
  · exact fileF_no hm
theorem sc_begin : FnScope ["self"] ["self"] (defScope m_begin) := ⟨rfl, rfl, rfl, by decide +kernel, rfl, by decide +kernel, by decide +kernel⟩
theorem ok_begin {f : Addr} {fd : FuncData} (F : Fun K "begin" "CardFile.begin" m_begin f fd) (T : Txt K mg C tc pc)
    (MS : MOk P w K mg base C "set_up" 2 ["self", "term_count", "place_count"] (spSetUp C)) : FnOk P w K mg base CX0 3 f fd ["self"] (spBegin C) := by
  refine F.ok sc_begin (fun vs H Q E h => ?_) (fun cdv A outer s H vs Q E hr h => ?_)
  · obtain ⟨a, dx, fs, rfl, _⟩ := h
    rfl
  · obtain ⟨a, dx, fs, rfl, hA, hfs, k⟩ := h
    refine ⟨_, pss_one (ps_expr (pe_m MS T.cl hr (pv 0) (pa_cons pe_int (pa_cons pe_int pa_nil)))), ?_⟩
    exact ⟨_, rfl, a, _, _, rfl, hA, hfs.no (by decide), a, dx, fs, 1, 1, rfl, hA, hfs, by decide, by decide, by decide, by decide, fun H' y' h1 h2 h3 => k H' y' h1 h2 h3⟩
def spInit (C : Addr) : Sp := fun vs H Q _ => ∃ (a dx : Addr), vs = [.ref a] ∧ H a = some (.ins C dx []) ∧
  ∀ H' y', FileAt C H' a y' Vbenag.start → (∀ b o, H b = some o → b ≠ a → H' b = some o) → (∀ b ∈ foot a y', b = a ∨ H b = none) → Q .non H'
theorem sc_init : FnScope ["self"] ["self"] (defScope m___init__) := ⟨rfl, rfl, rfl, by decide +kernel, rfl, by decide +kernel, by decide +kernel⟩
theorem ok_init {f : Addr} {fd : FuncData} (F : Fun K "__init__" "CardFile.__init__" m___init__ f fd) (T : Txt K mg C tc pc)
    (MB : MOk P w K mg base C "begin" 3 ["self"] (spBegin C)) : FnOk P w K mg base CX0 4 f fd ["self"] (spInit C) := by
  refine F.ok sc_init (fun vs H Q E h => ?_) (fun cdv A outer s H vs Q E hr h => ?_)
  · obtain ⟨a, dx, rfl, _⟩ := h
    rfl
  · obtain ⟨a, dx, rfl, hA, k⟩ := h
    refine ⟨_, pss_one (ps_expr (pe_m0 MB T.cl hr (pv 0))), ?_⟩
    exact ⟨_, rfl, a, _, _, rfl, hA, rfl, a, dx, [], rfl, hA, .inl rfl, fun H' y' h1 h2 h3 => k H' y' h1 h2 h3⟩
end
end Hc
set_option Elab.async false
set_option linter.all false
set_option maxRecDepth 100000
set_option maxHeartbeats 4000000
namespace Hc
open PySem PySem.Spec PyProof.Rows L2
theorem bit_dec : ∀ c, c < 16 → ∀ b ∈ [1, 2, 4, 8], (!decide (V.int (Builtin.bitAnd ((c : Nat) : Int) ((b : Nat) : Int)) = V.int 0)) = Vbenag.hasBit b c := by decide +kernel
theorem bit_mixed : ∀ b ∈ [1, 2, 4, 8], ∀ a, a < 16 → ∀ c, c < 16 → Vbenag.hasBit b (Vbenag.mixed a c) = (Vbenag.hasBit b a != Vbenag.hasBit b c) ∧ Vbenag.mixed a c < 16 := by decide +kernel
theorem odd_fold {b : Nat} (hb : b ∈ [1, 2, 4, 8]) : ∀ (l : List Nat) (a : Nat), a < 16 → (∀ c ∈ l, c < 16) → Vbenag.hasBit b (l.foldl Vbenag.mixed a) = (Vbenag.hasBit b a != ((l.filter (Vbenag.hasBit b)).length % 2 == 1))
  | [], a, _, _ => by
    show Vbenag.hasBit b a = (Vbenag.hasBit b a != false)
    cases Vbenag.hasBit b a <;> rfl
  | c :: l, a, ha, hl => by
    obtain ⟨e, h16⟩ := bit_mixed b hb a ha c (hl c (List.mem_cons_self ..))
    have ih := odd_fold hb l (Vbenag.mixed a c) h16 fun d hd => hl d (List.mem_cons_of_mem _ hd)
    show Vbenag.hasBit b (l.foldl Vbenag.mixed (Vbenag.mixed a c)) = _
    rw [ih, e, List.filter_cons]
    cases hc : Vbenag.hasBit b c with
    | false =>
      rw [if_neg Bool.false_ne_true]
      cases Vbenag.hasBit b a <;> rfl
    | true =>
      rw [if_pos rfl, List.length_cons]
      rcases Nat.mod_two_eq_zero_or_one (l.filter (Vbenag.hasBit b)).length with q | q
      · have q2 : ((l.filter (Vbenag.hasBit b)).length + 1) % 2 = 1 := by omega
        rw [q, q2]
        cases Vbenag.hasBit b a <;> rfl
      · have q2 : ((l.filter (Vbenag.hasBit b)).length + 1) % 2 = 0 := by omega
        rw [q, q2]
        cases Vbenag.hasBit b a <;> rfl
theorem odd_is {b : Nat} (hb : b ∈ [1, 2, 4, 8]) {l : List Nat} (hl : ∀ c ∈ l, c < 16) : ((l.filter (Vbenag.hasBit b)).length % 2 == 1) = Vbenag.hasBit b (Vbenag.mixedAll l) := by
  have h0 : Vbenag.hasBit b 0 = false := by
    revert hb
    revert b
    decide
  have := odd_fold hb l 0 (by decide) hl
  rw [h0] at this
  rw [show Vbenag.mixedAll l = l.foldl Vbenag.mixed 0 from rfl, this]
  cases ((l.filter (Vbenag.hasBit b)).length % 2 == 1) <;> rfl
theorem card_inj : ∀ a, a < 11 → ∀ b, b < 11 → Vbenag.cardOf a = Vbenag.cardOf b → a = b := by decide
theorem card_no : ∀ a, a < 11 → ∀ b ∈ [0, 1, 2, 4, 8], Vbenag.cardOf a ≠ b := by decide
def partsOf (ts : List Nat) : List Nat := [1, 2, 4, 8].filter fun w => Vbenag.hasBit w (Vbenag.mixedAll (ts.map Vbenag.cardOf))
theorem holes_eq (ts : List Nat) : Vbenag.holesFor ts = if ((ts.map Vbenag.cardOf ++ partsOf ts).length % 2 == 1) = true then 0 :: (ts.map Vbenag.cardOf ++ partsOf ts) else ts.map Vbenag.cardOf ++ partsOf ts := rfl
theorem nodup_holes {ts : List Nat} (hi : Inc ts) (ht : ∀ t ∈ ts, t < 11) : (0 :: (ts.map Vbenag.cardOf ++ partsOf ts)).Nodup := by
  refine List.nodup_cons.mpr ⟨fun q => ?_, List.nodup_append.mpr ⟨?_, ?_, fun x hx y hy e => ?_⟩⟩
  · rcases List.mem_append.mp q with q | q
    · obtain ⟨t, h1, h2⟩ := List.mem_map.mp q
      exact card_no t (ht t h1) 0 (by decide) h2
    · have := (List.mem_filter.mp q).1
      revert this
      decide
  · exact List.pairwise_map.mpr (List.Pairwise.imp_of_mem (fun {a b} ha hb q e => by have := card_inj a (ht a ha) b (ht b hb) e; omega) hi)
  · exact List.Pairwise.sublist List.filter_sublist (by decide)
  · subst e
    obtain ⟨t, h1, h2⟩ := List.mem_map.mp hx
    exact card_no t (ht t h1) x (List.mem_cons_of_mem _ (List.mem_filter.mp hy).1) h2
section
variable {P : Program} {w : World} {K : PySem.W.Frag} {mg : Str → Option Value} {base : Heap} {C tc pc : Addr}
def spCounted : Sp := fun vs H Q _ => ∃ (b : Addr) (xs : List V), vs = [.ref b] ∧ H b = some (.lst xs) ∧ xs.length < 100000 ∧ ∀ H' D, Same H H' → H D = none → H' D = some (.lst (nV xs.length :: xs)) → Q (.ref D) H'
theorem sc_counted : FnScope ["numbers"] ["numbers"] (defScope s_counted) := ⟨rfl, rfl, rfl, by decide +kernel, rfl, by decide +kernel, by decide +kernel⟩
theorem ok_counted {f : Addr} {fd : FuncData} (F : Fun K "counted" "counted" s_counted f fd) (T : Txt K mg C tc pc) : FnOk P w K mg base CX0 1 f fd ["numbers"] spCounted := by
  refine F.ok sc_counted (fun vs H Q E h => ?_) (fun cdv A outer s H vs Q E hr h => ?_)
  · obtain ⟨b, xs, rfl, _⟩ := h
    rfl
  · obtain ⟨b, xs, rfl, hb, hl, k⟩ := h
    refine ⟨_, pss_one (ps_ret (pe_op op_cat (pe_lst (pa_cons (pe_callB call_len_seq (by rfl) T.len PySem.boot_len (pa_cons (pv 0) pa_nil)) pa_nil)) (pv 0))), ?_⟩
    refine ⟨_, rfl, b, _, rfl, .inl (SqL.of hb), (by show 1 ≤ sizeLine; decide), fun p1 n1 => ?_⟩
    refine ⟨_, rfl, p1, b, _, _, rfl, rfl, upd_same, (by rw [upd_ne (ne_of_none hb n1)]; exact hb), ?_, fun p2 n2 => ?_⟩
    · rw [sizeLine_eq]
      show 1 + xs.length ≤ _
      omega
    · exact k _ p2 ((same_new n1).trans (same_new n2)) ((same_new n1 (o := .lst [.int xs.length])).free n2) upd_same
def spOdd (K : PySem.W.Frag) : Sp := fun vs H Q _ => ∃ (b : Addr) (l : List Nat) (p : Nat), vs = [nV p, .ref b] ∧ p ∈ [1, 2, 4, 8] ∧ SqL K H b (l.map nV) ∧ l.length < 1000 ∧ (∀ c ∈ l, c < 16) ∧ ∀ H', Same H H' → Q (.bl (Vbenag.hasBit p (Vbenag.mixedAll l))) H'
theorem sc_stands_oddly : FnScope ["part", "cards", "card"] ["part", "cards"] (defScope s_stands_oddly) := ⟨rfl, rfl, rfl, by decide +kernel, rfl, by decide +kernel, by decide +kernel⟩
theorem ok_stands_oddly {f : Addr} {fd : FuncData} (F : Fun K "stands_oddly" "stands_oddly" s_stands_oddly f fd) (T : Txt K mg C tc pc) : FnOk P w K mg base CX0 1 f fd ["part", "cards"] (spOdd K) := by
  refine F.ok sc_stands_oddly (fun vs H Q E h => ?_) (fun cdv A outer s H vs Q E hr h => ?_)
  · obtain ⟨b, l, p, rfl, _⟩ := h
    rfl
  · obtain ⟨b, l, p, rfl, hp, hb, hl, h16, k⟩ := h
    refine ⟨_, pss_one (ps_ret (pe_cmpR op_eq (pe_op op_mod (pe_callB call_len_seq (by rfl) T.len PySem.boot_len (pa_cons
      (pe_lc (own := [("card", 2)]) rfl sc_stands_oddly.nd (pi_list (pv 1)) (blkOk_by rfl)
        (fun s H C cl fp => pg_name (i := 2) sc_stands_oddly.nd rfl (Or.inl rfl) (Or.inr rfl))
        (fun s H C' cl fp => pts_one (pt_cmpR op_ne (pe_op op_and (pv 2) (pv 0)) pe_int (nomark _)))
        (fun s H C cl fp => pv 2)) pa_nil)) pe_int) pe_int (nomark _))), ?_⟩
    refine tRet_i (tOp_i (tOp_i (tCB1_i ?_)))
    refine lcLv (K := K) (j := 1) l nV (fun c => Vbenag.hasBit p c) nV rfl hb ⟨hl, fun c hc H2 R s2 q => ?_, fun c hc _ H2 R s2 q => ?_, fun D H2 hD s2 e => ?_⟩
    · refine ⟨_, rfl, _, rfl, _, _, rfl, rfl, rfl, _, rfl, ?_⟩
      have e := bit_dec c (h16 c hc) p hp
      have q' : R (Vbenag.hasBit p c) H2 := q H2 (Same.refl _)
      rw [← e] at q'
      exact q'
    · exact ⟨_, rfl, q H2 (Same.refl _)⟩
    · refine ⟨D, _, rfl, .inl (SqL.of e), _, _, rfl, rfl, (by show (0 : Int) < 2; decide), rfl, ?_⟩
      have q := k H2 s2
      rw [← odd_is hp h16] at q
      have e2 : (decide (V.int ((((l.filter fun c => Vbenag.hasBit p c).map nV).length : Int) % 2) = V.int 1)) = ((l.filter (Vbenag.hasBit p)).length % 2 == 1) := by
        rw [List.length_map, dec_int, Bool.eq_iff_iff, beq_iff_eq, beq_iff_eq]
        show (((l.filter (Vbenag.hasBit p)).length : Int) % 2) = 1 ↔ _
        omega
      rw [← e2] at q
      exact q
def spItemHoles (K : PySem.W.Frag) : Sp := fun vs H Q _ => ∃ (b : Addr) (ts : List Nat), vs = [.ref b] ∧ SqL K H b (ts.map nV) ∧ Inc ts ∧ (∀ t ∈ ts, t < 11) ∧ ts.length < 1000 ∧
  ∀ H' D, Same H H' → H D = none → H' D = some (.lst ((VbenCore.sortBy ltb (Vbenag.holesFor ts)).map nV)) → Q (.ref D) H'
theorem sc_item_holes : FnScope ["terms", "term_cards", "cards", "term", "part"] ["terms"] (defScope s_item_holes) := ⟨rfl, rfl, rfl, by decide +kernel, rfl, by decide +kernel, by decide +kernel⟩
theorem inc_len {l : List Nat} {n : Nat} (h : Inc l) (hl : ∀ x ∈ l, x < n) : l.length ≤ n := by
  have e : l = (List.range n).filter fun x => l.contains x := inc_ext h ((inc_range n).filter _) fun x => by
    rw [List.mem_filter, List.mem_range, List.contains_iff_mem]
    exact ⟨fun q => ⟨hl x q, q⟩, fun q => q.2⟩
  rw [e]
  exact Nat.le_trans (List.length_filter_le _ _) (by rw [List.length_range]; exact Nat.le_refl _)
theorem filter_true {α : Type} (l : List α) : l.filter (fun _ => true) = l := List.filter_eq_self.mpr fun _ _ => rfl
theorem ok_item_holes {f : Addr} {fd : FuncData} (F : Fun K "item_holes" "item_holes" s_item_holes f fd) (T : Txt K mg C tc pc)
    (GO : GOk P w K mg base "card_of" 1 ["term"] spCardOf) (GS : GOk P w K mg base "stands_oddly" 1 ["part", "cards"] (spOdd K)) : FnOk P w K mg base CX0 2 f fd ["terms"] (spItemHoles K) := by
  refine F.ok sc_item_holes (fun vs H Q E h => ?_) (fun cdv A outer s H vs Q E hr h => ?_)
  · obtain ⟨b, ts, rfl, _⟩ := h
    rfl
  · obtain ⟨b, ts, rfl, hb, hi, ht, hl, k⟩ := h
    obtain ⟨t0, me⟩ := T.even
    have nd := sc_item_holes.nd
    refine ⟨_, pss_cons (ps_set (i := 1) nd rfl (Or.inr rfl) (pe_lc (own := [("term", 3)]) rfl nd (pi_list (pv 0)) (blkOk_by rfl)
        (fun s H C cl fp => pg_name (i := 3) nd rfl (Or.inl rfl) (Or.inr rfl)) (fun s H C' cl fp => pts_nil) (fun s H C cl fp => pe_g GO hr rfl (pa_cons (pv 3) pa_nil))))
      (pss_cons (ps_set (i := 2) nd rfl (Or.inl rfl) (pe_op op_cat (pv 1) (pe_lc (own := [("part", 4)]) rfl nd (pi_tup (pe_gref rfl T.mgP)) (blkOk_by rfl)
        (fun s H C cl fp => pg_name (i := 4) nd rfl (Or.inl rfl) (Or.inr rfl)) (fun s H C' cl fp => pts_one (pt_val (pe_g GS hr rfl (pa_cons (pv 4) (pa_cons (pv 1) pa_nil))))) (fun s H C cl fp => pv 4))))
      (pss_cons (ps_if (pt_cmpR op_eq (pe_op op_mod (pe_callB call_len_seq (by rfl) T.len PySem.boot_len (pa_cons (pv 2) pa_nil)) pe_int) pe_int (nomark _))
        (pss_one (ps_expr (pe_bm PySem.F.plainAttrs_list PySem.F.slot_list_append PySem.F.type_list_append mt_append (pv 2) (pa_cons (pe_gint rfl me) pa_nil)))) pss_nil)
      (pss_one (ps_ret (pe_callB cr_sorted (by rfl) T.sorted PyProof.Rows.boot_sorted (pa_cons (pv 2) pa_nil)))))), ?_⟩
    have hl11 := inc_len hi ht
    refine tSeq_i (tAsg_i ?_)
    refine lcLv (K := K) (j := 0) ts nV (fun _ => true) (fun t => nV (Vbenag.cardOf t)) rfl hb ⟨hl, fun c hc H2 R s2 q => q H2 (Same.refl _), fun t hc _ H2 R s2 q => ?_, fun D1 H1 hD1 s1 e1 => ?_⟩
    · exact ⟨_, rfl, t, rfl, ht t hc, q H2 (Same.refl _)⟩
    · rw [filter_true] at e1
      have e1 : H1 D1 = some (.lst ((ts.map Vbenag.cardOf).map nV)) := by rw [e1, List.map_map]; rfl
      refine tSeq_i (tAsg_i (tOp_i (tVar_i rfl ?_)))
      have hc16 : ∀ c ∈ ts.map Vbenag.cardOf, c < 16 := fun c hc => by
        obtain ⟨t, h1, rfl⟩ := List.mem_map.mp hc
        exact cardOf_lt t (ht t h1)
      refine lcT (K := K) [1, 2, 4, 8] nV (fun w => Vbenag.hasBit w (Vbenag.mixedAll (ts.map Vbenag.cardOf))) nV (fun H2 _ => T.pcs H2) ⟨by decide, fun p hp H2 R s2 q => ?_, fun t hc _ H2 R s2 q => ?_, fun D2 H2 hD2 s2 e2 => ?_⟩
      · exact ⟨_, rfl, _, rfl, D1, ts.map Vbenag.cardOf, p, rfl, hp, SqL.of (s2 _ _ e1), by rw [List.length_map]; omega, hc16, fun H3 s3 => ⟨_, rfl, q H3 s3⟩⟩
      · exact ⟨_, rfl, q H2 (Same.refl _)⟩
      · have e2 : H2 D2 = some (.lst ((partsOf ts).map nV)) := e2
        have hpl : (partsOf ts).length ≤ 4 := List.length_filter_le _ _
        refine ⟨D1, D2, _, _, rfl, rfl, s2 _ _ e1, e2, ?_, fun D3 n3 => ?_⟩
        · rw [List.length_map, List.length_map, List.length_map, sizeLine_eq]
          omega
        · rw [← List.map_append]
          have s3 : Same H (upd H2 D3 (.lst ((ts.map Vbenag.cardOf ++ partsOf ts).map nV))) := (s1.trans s2).trans (same_new n3)
          refine ⟨_, rfl, D3, _, rfl, .inl (SqL.of upd_same), _, _, rfl, rfl, (by show (0 : Int) < 2; decide), rfl, _, rfl, ?_⟩
          have e4 : (decide (V.int ((((ts.map Vbenag.cardOf ++ partsOf ts).map nV).length : Int) % 2) = V.int 1)) = ((ts.map Vbenag.cardOf ++ partsOf ts).length % 2 == 1) := by
            rw [List.length_map, dec_int, Bool.eq_iff_iff, beq_iff_eq, beq_iff_eq]
            omega
          have hll : (ts.map Vbenag.cardOf ++ partsOf ts).length ≤ 15 := by
            rw [List.length_append, List.length_map]
            omega
          have hnd := nodup_holes hi ht
          have fin : ∀ (H4 : Hp) (l : List Nat), H4 D3 = some (.lst (l.map nV)) → Same H H4 → l.Perm (Vbenag.holesFor ts) → (Vbenag.holesFor ts).Nodup → l.length < 64 → rSorted K [.ref D3] H4 Q := by
            intro H4 l e5 s5 hp hn h64
            refine ⟨D3, l.map fun n : Nat => (n : Int), rfl, by rw [map_nV]; exact SqL.of e5, by rw [List.length_map]; exact h64, fun ns' p hp' hs' hn' => ?_⟩
            have := sorted_cast hn (hp'.trans (hp.map _)) hs'
            rw [this, map_nV]
            exact k _ p (s5.trans (same_new hn')) (s5.free hn') upd_same
          refine ite2 (fun q => ?_) fun q => ?_
          · have q' := e4.symm.trans q
            refine ⟨_, rfl, .inl ⟨rfl, _, SqL.of upd_same⟩, D3, _, _, rfl, rfl, upd_same, ?_, ?_⟩
            · rw [List.length_map]
              exact small1000 (by omega)
            · rw [upd_upd]
              refine ⟨_, rfl, fin _ (ts.map Vbenag.cardOf ++ partsOf ts ++ [0]) ?_ ?_ ?_ ?_ ?_⟩
              · rw [upd_same, List.map_append (l₂ := [0])]
                rfl
              · exact (s1.trans s2).trans (same_new n3)
              · rw [holes_eq, if_pos q']
                exact List.perm_append_singleton 0 _
              · rw [holes_eq, if_pos q']
                exact hnd
              · rw [List.length_append]
                show _ + 1 < 64
                omega
          · have q' : ¬ ((ts.map Vbenag.cardOf ++ partsOf ts).length % 2 == 1) = true := fun z => q (e4.trans z)
            refine ⟨_, rfl, fin _ (ts.map Vbenag.cardOf ++ partsOf ts) upd_same s3 ?_ ?_ (by omega)⟩
            · rw [holes_eq, if_neg q']
            · rw [holes_eq, if_neg q']
              exact (List.nodup_cons.mp hnd).2
end
end Hc
set_option Elab.async false
set_option linter.all false
set_option maxRecDepth 100000
set_option maxHeartbeats 4000000
namespace Hc
open PySem PySem.Spec PyProof.Rows L2
def CallEnd (C a : Addr) (y : Lay) (H : Hp) (Q : VK) (r : Vbenag.State × List Int) : Prop :=
  ∀ H' y' D, FileAt C H' a y' r.1 → Chg a y y' H H' → H D = none → D ∉ own a y' → H' D = some (.lst (r.2.map V.int)) → Q (.ref D) H'
theorem FileG.tracked {C : Addr} {H : Hp} {a : Addr} {y : Lay} {s : Vbenag.State} {ls : List Nat} (h : FileG C H a y s ls) {b : Addr} (hb : b ∈ own a y) : ∃ o, H b = some o := by
  simp only [own, List.mem_cons] at hb
  rcases hb with z | z | z | z | z
  · exact ⟨_, by rw [z]; exact h.obj⟩
  · exact ⟨_, by rw [z]; exact h.holes⟩
  · exact ⟨_, by rw [z]; exact h.items⟩
  · exact ⟨_, by rw [z]; exact h.lost⟩
  · obtain ⟨i, hi⟩ := List.getElem?_of_mem z
    have hl : i < (Vbenag.used s).length := by rw [← h.rlen]; exact (List.getElem?_eq_some_iff.mp hi).1
    exact ⟨_, h.row i _ b (List.getElem?_eq_getElem hl) hi⟩
theorem FileG.free {C : Addr} {H : Hp} {a : Addr} {y : Lay} {s : Vbenag.State} {ls : List Nat} (h : FileG C H a y s ls) {D : Addr} (hD : H D = none) : D ∉ own a y := fun q => by
  obtain ⟨o, e⟩ := h.tracked q
  rw [hD] at e
  cases e
theorem CallEnd.same {C a : Addr} {y : Lay} {H H' : Hp} {Q : VK} {s : Vbenag.State} {ans : List Int} (k : CallEnd C a y H Q (s, ans)) (hF : FileAt C H a y s) (s1 : Same H H') {D : Addr} (hD : H D = none) (e : H' D = some (.lst (ans.map V.int))) : Q (.ref D) H' :=
  k H' y D (hF.same s1) (Chg.same s1) hD (hF.free hD) e
theorem ints_nV (l : List Nat) : (VbenCore.ints l).map V.int = l.map nV := map_nV l
theorem listRow_V (l : List Nat) : (Vbenag.listRow l).map V.int = nV l.length :: l.map nV := by
  show V.int _ :: (VbenCore.ints l).map V.int = _
  rw [ints_nV]
  rfl
theorem place_nat {s : Vbenag.State} {n : Int} (h : Vbenag.isPlace s n = true) : n = ((n.toNat : Nat) : Int) ∧ n.toNat < s.places := by
  have e := (between_eq n s.places).symm.trans h
  rw [Bool.and_eq_true, decide_eq_true_eq, decide_eq_true_eq] at e
  omega
theorem term_nat {s : Vbenag.State} {n : Int} (h : Vbenag.isTerm s n = true) : n = ((n.toNat : Nat) : Int) ∧ n.toNat < s.terms := by
  have e := (between_eq n s.terms).symm.trans h
  rw [Bool.and_eq_true, decide_eq_true_eq, decide_eq_true_eq] at e
  omega
theorem card_nat {s : Vbenag.State} {n : Int} (h : Vbenag.isCard s n = true) : n = ((n.toNat : Nat) : Int) ∧ n.toNat ∈ Vbenag.used s := by
  have h : (decide (0 ≤ n) && (Vbenag.used s).contains n.toNat) = true := h
  rw [Bool.and_eq_true, decide_eq_true_eq] at h
  exact ⟨by omega, List.contains_iff_mem.mp h.2⟩
theorem terms_nat {s : Vbenag.State} {ns : List Int} (h : Vbenag.isTerms s ns = true) : ns.map V.int = (ns.map Int.toNat).map nV ∧ Inc (ns.map Int.toNat) ∧ ∀ t ∈ ns.map Int.toNat, t < s.terms := by
  refine ⟨?_, isTerms_nat h⟩
  rw [List.map_map]
  refine List.map_congr_left fun x hx => ?_
  have h : (Vbenag.rising ns && ns.all (Vbenag.isTerm s)) = true := h
  rw [Bool.and_eq_true] at h
  exact congrArg V.int (term_nat (List.all_eq_true.mp h.2 x hx)).1
section
variable {σ : L2.St} {H : Hp} {R : Bool → Hp → Prop} {K : PySem.W.Frag}
theorem chain_i {j : Nat} {n lo hi : Int} (hv : σ[j]? = some (some (.int n))) (h : R (decide (lo ≤ n) && decide (n ≤ hi)) H) :
    tTest (tChain (rI0 fun i j => .bl (decide (i ≤ j))) (rI0 fun i j => .bl (decide (i ≤ j))) (tC (.int lo)) (tVar j) (tC (.int hi))) σ H R := by
  refine ⟨_, hv, _, _, rfl, rfl, _, rfl, ?_⟩
  refine ite2 (fun q => ?_) fun q => ?_
  · have q : decide (lo ≤ n) = true := q
    rw [q, Bool.true_and] at h
    exact ⟨_, _, rfl, rfl, _, rfl, h⟩
  · have q : decide (lo ≤ n) = false := Bool.eq_false_iff.mpr q
    rw [q, Bool.false_and] at h
    exact ⟨_, rfl, h⟩
end
section
variable {P : Program} {w : World} {K : PySem.W.Frag} {mg : Str → Option Value} {base : Heap} {C tc pc : Addr}
def spFile (C : Addr) : Sp := fun vs H Q _ => ∃ (a : Addr) (y : Lay) (s : Vbenag.State) (t p : Int), vs = [.ref a, .int t, .int p] ∧ FileAt C H a y s ∧ CallEnd C a y H Q (Vbenag.step s [[0, t, p]])
theorem sc_set_up_file : FnScope ["card_file", "term_count", "place_count"] ["card_file", "term_count", "place_count"] (defScope s_set_up_file) := ⟨rfl, rfl, rfl, by decide +kernel, rfl, by decide +kernel, by decide +kernel⟩
theorem step_in {s : Vbenag.State} {c : List (List Int)} {d : Vbenag.Call} (h : Vbenag.decode c = some d) : Vbenag.step s c = if Vbenag.inRange s d = false then (s, [-1]) else Vbenag.act s d := by
  unfold Vbenag.step
  rw [h]
theorem own_self {a : Addr} {y : Lay} : a ∈ own a y := List.mem_cons_self ..
theorem ok_set_up_file {f : Addr} {fd : FuncData} (F : Fun K "set_up_file" "set_up_file" s_set_up_file f fd) (T : Txt K mg C tc pc)
    (MS : MOk P w K mg base C "set_up" 2 ["self", "term_count", "place_count"] (spSetUp C)) : FnOk P w K mg base CX0 3 f fd ["card_file", "term_count", "place_count"] (spFile C) := by
  refine F.ok sc_set_up_file (fun vs H Q E h => ?_) (fun cdv A outer s H vs Q E hr h => ?_)
  · obtain ⟨a, y, s, t, p, rfl, _⟩ := h
    rfl
  · obtain ⟨a, y, st, t, p, rfl, hF, k⟩ := h
    obtain ⟨_, g1⟩ := T.i1
    obtain ⟨_, g2⟩ := T.mt
    obtain ⟨_, g3⟩ := T.mp
    refine ⟨_, pss_cons (ps_if (PW.pt (pw_or (pt_not (pt_chain op_le op_le pe_int (pv 1) (pe_gint rfl g2))) (pw_or1 (pt_not (pt_chain op_le op_le pe_int (pv 2) (pe_gint rfl g3))))))
        (pss_one (ps_ret (pe_lst (pa_cons (pe_gint rfl g1) pa_nil)))) pss_nil)
      (pss_cons (ps_expr (pe_m MS T.cl hr (pv 0) (pa_cons (pv 1) (pa_cons (pv 2) pa_nil))))
      (pss_one (ps_ret (pe_lst (pa_cons pe_int pa_nil))))), ?_⟩
    rw [step_in (d := .file t p) rfl] at k
    have hin : Vbenag.inRange st (.file t p) = ((decide (1 ≤ t) && decide (t ≤ 11)) && (decide (1 ≤ p) && decide (p ≤ 40))) := rfl
    rw [hin] at k
    have no : (if ((decide (1 ≤ t) && decide (t ≤ 11)) && (decide (1 ≤ p) && decide (p ≤ 40))) = false then (st, [-1]) else Vbenag.act st (.file t p)) = (st, [-1]) → ∀ (p1 : Addr), H p1 = none → Q (.ref p1) (upd H p1 (.lst [.int (-1)])) := fun e p1 n1 => by
      rw [e] at k
      exact k.same hF (same_new n1) n1 upd_same
    refine chain_i rfl ?_
    by_cases ht : (decide (1 ≤ t) && decide (t ≤ 11)) = true
    · rw [ht]
      refine chain_i rfl ?_
      by_cases hp : (decide (1 ≤ p) && decide (p ≤ 40)) = true
      · rw [hp]
        rw [ht, hp] at k
        rw [Bool.and_eq_true, decide_eq_true_eq, decide_eq_true_eq] at ht hp
        have et : t = ((t.toNat : Nat) : Int) := by omega
        have ep : p = ((p.toNat : Nat) : Int) := by omega
        refine ⟨_, rfl, a, _, _, rfl, hF.obj, rfl, _, rfl, _, rfl, a, y.dx, _, t.toNat, p.toNat, by rw [nV, nV, ← et, ← ep]; rfl, hF.obj, .inr ⟨_, _, _, _, _, _, rfl⟩, by omega, by omega, by omega, by omega, fun H' y' h1 h2 h3 => ?_⟩
        refine ⟨(by show 1 ≤ sizeLine; decide), fun p1 n1 => ?_⟩
        refine k _ y' p1 (h1.same (same_new n1)) ⟨fun b o e n => ?_, fun b hb => ?_, fun b o e => ?_, fun b hb => ?_⟩ ?_ (h1.free n1) upd_same
        · exact same_new n1 _ _ (h2 b o e fun z => n (by rw [z]; exact own_self))
        · rcases h3 b (List.mem_append_left _ hb) with z | z
          · exact .inl (by rw [z]; exact own_self)
          · exact .inr z
        · by_cases z : b = a
          · exact ⟨_, by rw [z]; exact same_new n1 _ _ h1.obj⟩
          · exact ⟨o, same_new n1 _ _ (h2 b o e z)⟩
        · rcases h3 b hb with z | z
          · exact .inl (by rw [z]; exact List.mem_append_left _ own_self)
          · exact .inr z
        · cases q : H p1 with
          | none => rfl
          | some o =>
            by_cases z : p1 = a
            · rw [z, h1.obj] at n1; cases n1
            · rw [h2 p1 o q z] at n1; cases n1
      · rw [Bool.eq_false_iff.mpr hp]
        refine ⟨(by show 1 ≤ sizeLine; decide), no ?_⟩
        rw [ht, Bool.eq_false_iff.mpr hp]
        rfl
    · rw [Bool.eq_false_iff.mpr ht]
      refine ⟨(by show 1 ≤ sizeLine; decide), no ?_⟩
      rw [Bool.eq_false_iff.mpr ht]
      rfl
def spToggle (C : Addr) : Sp := fun vs H Q _ => ∃ (a : Addr) (y : Lay) (s : Vbenag.State) (c p : Int), vs = [.ref a, .int c, .int p] ∧ FileAt C H a y s ∧ CallEnd C a y H Q (Vbenag.step s [[7, c, p]])
theorem sc_toggle_hole : FnScope ["card_file", "card", "place"] ["card_file", "card", "place"] (defScope s_toggle_hole) := ⟨rfl, rfl, rfl, by decide +kernel, rfl, by decide +kernel, by decide +kernel⟩
theorem Same.none {H H' : Hp} (s : Same H H') {D : Addr} (h : H' D = Option.none) : H D = Option.none := s.free h
theorem ok_toggle_hole {f : Addr} {fd : FuncData} (F : Fun K "toggle_hole" "toggle_hole" s_toggle_hole f fd) (T : Txt K mg C tc pc)
    (MC : MOk P w K mg base C "is_card" 1 ["self", "number"] (spIsCard C)) (MP : MOk P w K mg base C "is_place" 1 ["self", "number"] (spIsPlace C)) (ML : MOk P w K mg base C "is_lost" 1 ["self", "card"] (spIsLost C))
    (MT : MOk P w K mg base C "turn_hole" 1 ["self", "card", "place"] (spTurnHole C)) (MH : MOk P w K mg base C "has_hole" 1 ["self", "card", "place"] (spHasHole C)) : FnOk P w K mg base CX0 2 f fd ["card_file", "card", "place"] (spToggle C) := by
  refine F.ok sc_toggle_hole (fun vs H Q E h => ?_) (fun cdv A outer s H vs Q E hr h => ?_)
  · obtain ⟨a, y, s, c, p, rfl, _⟩ := h
    rfl
  · obtain ⟨a, y, st, c, p, rfl, hF, k⟩ := h
    obtain ⟨_, g1⟩ := T.i1
    obtain ⟨_, g5⟩ := T.i5
    refine ⟨_, pss_cons (ps_if (PW.pt (pw_or (pt_not (pt_val (pe_m MC T.cl hr (pv 0) (pa_cons (pv 1) pa_nil)))) (pw_or1 (pt_not (pt_val (pe_m MP T.cl hr (pv 0) (pa_cons (pv 2) pa_nil)))))))
        (pss_one (ps_ret (pe_lst (pa_cons (pe_gint rfl g1) pa_nil)))) pss_nil)
      (pss_cons (ps_if (pt_val (pe_m ML T.cl hr (pv 0) (pa_cons (pv 1) pa_nil))) (pss_one (ps_ret (pe_lst (pa_cons (pe_gint rfl g5) pa_nil)))) pss_nil)
      (pss_cons (ps_expr (pe_m MT T.cl hr (pv 0) (pa_cons (pv 1) (pa_cons (pv 2) pa_nil))))
      (pss_one (ps_ret (pe_lst (pa_cons (pe_ifExp (pt_val (pe_m MH T.cl hr (pv 0) (pa_cons (pv 1) (pa_cons (pv 2) pa_nil)))) pe_int pe_int) pa_nil)))))), ?_⟩
    rw [step_in (d := .toggle c p) rfl] at k
    have hin : Vbenag.inRange st (.toggle c p) = (Vbenag.isCard st c && Vbenag.isPlace st p) := rfl
    rw [hin] at k
    refine ⟨_, rfl, a, _, _, rfl, hF.obj, rfl, _, rfl, a, y, st, c, rfl, hF, _, rfl, ?_⟩
    by_cases hc : Vbenag.isCard st c = true
    · rw [hc]
      rw [hc, Bool.true_and] at k
      refine ⟨_, rfl, a, _, _, rfl, hF.obj, rfl, _, rfl, a, y, st, p, rfl, hF, _, rfl, ?_⟩
      by_cases hp : Vbenag.isPlace st p = true
      · rw [hp]
        rw [hp] at k
        obtain ⟨ec, mc⟩ := card_nat hc
        obtain ⟨ep, mp⟩ := place_nat hp
        have k : CallEnd C a y H Q (if st.lost.contains c.toNat = true then Vbenag.no st 5 else ({ st with cards := Vbenag.toggled st.cards c.toNat p.toNat }, [if Vbenag.isHole st c.toNat p.toNat = true then 0 else 1])) := k
        refine ⟨_, rfl, a, _, _, rfl, hF.obj, rfl, _, rfl, a, y, st, c.toNat, by rw [nV, ← ec]; rfl, hF, _, rfl, ?_⟩
        by_cases hl : st.lost.contains c.toNat = true
        · rw [hl]
          rw [if_pos hl] at k
          exact ⟨(by show 1 ≤ sizeLine; decide), fun p1 n1 => k.same hF (same_new n1) n1 upd_same⟩
        · rw [Bool.eq_false_iff.mpr hl]
          rw [if_neg hl] at k
          have nl : c.toNat ∉ st.lost := fun q => hl (List.contains_iff_mem.mpr q)
          refine ⟨_, rfl, a, _, _, rfl, hF.obj, rfl, _, rfl, _, rfl, a, y, st, st.lost, c.toNat, p.toNat, by rw [nV, nV, ← ec, ← ep]; rfl, hF, mc, nl, mp, fun H1 hF1 g => ?_⟩
          refine ⟨_, rfl, a, _, _, rfl, hF1.obj, rfl, _, rfl, _, rfl, a, y, _, c.toNat, p.toNat, by rw [nV, nV, ← ec, ← ep]; rfl, hF1, mc, mp, _, rfl, ?_⟩
          rw [hole_toggle hF.wf (used_lt mc), if_pos ⟨rfl, rfl⟩]
          have fin : ∀ n : Int, n = (if Vbenag.isHole st c.toNat p.toNat = true then 0 else 1) → tNil (start ["card_file", "card", "place"] [.ref a, .int c, .int p]) H1 (fun xs H2 => (V.int n :: xs).length ≤ sizeLine ∧ ∀ p1, H2 p1 = none → Q (.ref p1) (upd H2 p1 (.lst (V.int n :: xs)))) := fun n en => by
            refine ⟨(by show 1 ≤ sizeLine; decide), fun p1 n1 => ?_⟩
            refine k _ y p1 (hF1.same (same_new n1)) (g.sameR (same_new n1)) (g.none n1) (hF1.free n1) ?_
            rw [upd_same, ← en]
            rfl
          cases hh : Vbenag.isHole st c.toNat p.toNat with
          | true =>
            refine iteF (fin 0 ?_)
            rw [hh]
            rfl
          | false =>
            refine iteT (fin 1 ?_)
            rw [hh]
            rfl
      · rw [Bool.eq_false_iff.mpr hp]
        rw [Bool.eq_false_iff.mpr hp] at k
        exact ⟨(by show 1 ≤ sizeLine; decide), fun p1 n1 => k.same hF (same_new n1) n1 upd_same⟩
    · rw [Bool.eq_false_iff.mpr hc]
      rw [Bool.eq_false_iff.mpr hc, Bool.false_and] at k
      exact ⟨(by show 1 ≤ sizeLine; decide), fun p1 n1 => k.same hF (same_new n1) n1 upd_same⟩
def spLose (C : Addr) : Sp := fun vs H Q _ => ∃ (a : Addr) (y : Lay) (s : Vbenag.State) (c : Int), vs = [.ref a, .int c] ∧ FileAt C H a y s ∧ CallEnd C a y H Q (Vbenag.step s [[8, c]])
theorem sc_lose_card : FnScope ["card_file", "card"] ["card_file", "card"] (defScope s_lose_card) := ⟨rfl, rfl, rfl, by decide +kernel, rfl, by decide +kernel, by decide +kernel⟩
theorem lost_len {C : Addr} {H : Hp} {a : Addr} {y : Lay} {s : Vbenag.State} (h : FileAt C H a y s) : (lostD y.los).length = s.lost.length := by
  unfold lostD
  rw [List.length_map]
  exact h.losP.length_eq
theorem ok_lose_card {f : Addr} {fd : FuncData} (F : Fun K "lose_card" "lose_card" s_lose_card f fd) (T : Txt K mg C tc pc)
    (MC : MOk P w K mg base C "is_card" 1 ["self", "number"] (spIsCard C)) (ML : MOk P w K mg base C "is_lost" 1 ["self", "card"] (spIsLost C)) (MT : MOk P w K mg base C "take_out" 1 ["self", "card"] (spTakeOut C)) :
    FnOk P w K mg base CX0 2 f fd ["card_file", "card"] (spLose C) := by
  refine F.ok sc_lose_card (fun vs H Q E h => ?_) (fun cdv A outer s H vs Q E hr h => ?_)
  · obtain ⟨a, y, s, c, rfl, _⟩ := h
    rfl
  · obtain ⟨a, y, st, c, rfl, hF, k⟩ := h
    obtain ⟨_, g1⟩ := T.i1
    obtain ⟨_, g5⟩ := T.i5
    obtain ⟨_, g3⟩ := T.i3
    obtain ⟨_, g4⟩ := T.ml
    refine ⟨_, pss_cons (ps_if (pt_not (pt_val (pe_m MC T.cl hr (pv 0) (pa_cons (pv 1) pa_nil)))) (pss_one (ps_ret (pe_lst (pa_cons (pe_gint rfl g1) pa_nil)))) pss_nil)
      (pss_cons (ps_if (pt_val (pe_m ML T.cl hr (pv 0) (pa_cons (pv 1) pa_nil))) (pss_one (ps_ret (pe_lst (pa_cons (pe_gint rfl g5) pa_nil)))) pss_nil)
      (pss_cons (ps_if (pt_cmpR op_ge (pe_callB call_lenD (by rfl) T.len PySem.boot_len (pa_cons (pe_fld (pv 0) rfl) pa_nil)) (pe_gint rfl g4) (nomark _)) (pss_one (ps_ret (pe_lst (pa_cons (pe_gint rfl g3) pa_nil)))) pss_nil)
      (pss_cons (ps_expr (pe_m MT T.cl hr (pv 0) (pa_cons (pv 1) pa_nil)))
      (pss_one (ps_ret (pe_lst (pa_cons (pe_callB call_lenD (by rfl) T.len PySem.boot_len (pa_cons (pe_fld (pv 0) rfl) pa_nil)) pa_nil))))))), ?_⟩
    rw [step_in (d := .lose c) rfl] at k
    have hin : Vbenag.inRange st (.lose c) = Vbenag.isCard st c := rfl
    rw [hin] at k
    refine ⟨_, rfl, a, _, _, rfl, hF.obj, rfl, _, rfl, a, y, st, c, rfl, hF, _, rfl, ?_⟩
    by_cases hc : Vbenag.isCard st c = true
    · rw [hc]
      rw [hc] at k
      obtain ⟨ec, mc⟩ := card_nat hc
      have k : CallEnd C a y H Q (if st.lost.contains c.toNat = true then Vbenag.no st 5 else if 4 ≤ st.lost.length then Vbenag.no st 3 else (loseS st c.toNat, [(st.lost.length : Int) + 1])) := k
      refine ⟨_, rfl, a, _, _, rfl, hF.obj, rfl, _, rfl, a, y, st, c.toNat, by rw [nV, ← ec]; rfl, hF, _, rfl, ?_⟩
      by_cases hl : st.lost.contains c.toNat = true
      · rw [hl]
        rw [if_pos hl] at k
        exact ⟨(by show 1 ≤ sizeLine; decide), fun p1 n1 => k.same hF (same_new n1) n1 upd_same⟩
      · rw [Bool.eq_false_iff.mpr hl]
        rw [if_neg hl] at k
        have nl : c.toNat ∉ st.lost := fun q => hl (List.contains_iff_mem.mpr q)
        refine ⟨_, rfl, a, C, _, _, _, rfl, hF.obj, T.cl, T.nL, rfl, y.hl, _, rfl, hF.lost, _, _, rfl, rfl, _, rfl, ?_⟩
        rw [lost_len hF]
        refine ite2 (fun q => ?_) fun q => ?_
        · have q : (4 : Int) ≤ (st.lost.length : Int) := of_decide_eq_true q
          rw [if_pos (by omega)] at k
          exact ⟨(by show 1 ≤ sizeLine; decide), fun p1 n1 => k.same hF (same_new n1) n1 upd_same⟩
        · have q : ¬ (4 : Int) ≤ (st.lost.length : Int) := fun z => q (decide_eq_true z)
          rw [if_neg (by omega)] at k
          refine ⟨_, rfl, a, _, _, rfl, hF.obj, rfl, _, rfl, a, y, st, c.toNat, by rw [nV, ← ec]; rfl, hF, mc, nl, by omega, fun H1 y1 hF1 g => ?_⟩
          refine ⟨_, rfl, a, C, _, _, _, rfl, hF1.obj, T.cl, T.nL, rfl, y1.hl, _, rfl, hF1.lost, (by show 1 ≤ sizeLine; decide), fun p1 n1 => ?_⟩
          refine k _ y1 p1 (hF1.same (same_new n1)) (g.sameR (same_new n1)) (g.none n1) (hF1.free n1) ?_
          rw [upd_same, lost_len hF1]
          have e : ((loseS st c.toNat).lost.length : Int) = (st.lost.length : Int) + 1 := by
            show ((VbenCore.sortBy ltb (c.toNat :: st.lost)).length : Int) = _
            rw [len_sortBy (List.nodup_cons.mpr ⟨nl, hF.wf.lostI.nodup⟩), List.length_cons]
            omega
          rw [e]
          rfl
    · rw [Bool.eq_false_iff.mpr hc]
      rw [Bool.eq_false_iff.mpr hc] at k
      exact ⟨(by show 1 ≤ sizeLine; decide), fun p1 n1 => k.same hF (same_new n1) n1 upd_same⟩
end
end Hc
set_option Elab.async false
set_option linter.all false
set_option maxRecDepth 100000
set_option maxHeartbeats 4000000
namespace Hc
open PySem PySem.Spec PyProof.Rows L2
def tog (l : List Nat) (p : Nat) : List Nat := if l.contains p = true then l.filter fun x => x != p else VbenCore.sortBy (fun a b => decide (a < b)) (p :: l)
theorem punched_getD (p : Nat) : ∀ (cs : List Nat) (cards : List (List Nat)), cs.Nodup → (∀ c ∈ cs, c < cards.length) → ∀ d, (Vbenag.punched cards cs p).getD d [] = if d ∈ cs then tog (cards.getD d []) p else cards.getD d []
  | [], _, _, _, d => rfl
  | c :: cs, cards, hn, hl, d => by
    have hn' := List.nodup_cons.mp hn
    show (Vbenag.punched (Vbenag.toggled cards c p) cs p).getD d [] = _
    rw [punched_getD p cs _ hn'.2 (fun x hx => by rw [toggled_len]; exact hl x (List.mem_cons_of_mem _ hx)) d]
    by_cases e : d = c
    · subst e
      rw [if_neg hn'.1, if_pos (List.mem_cons_self ..), toggled_at p (hl d (List.mem_cons_self ..))]
      rfl
    · rw [toggled_ne p e]
      by_cases q : d ∈ cs
      · rw [if_pos q, if_pos (List.mem_cons_of_mem _ q)]
      · rw [if_neg q, if_neg fun z => (List.mem_cons.mp z).elim e q]
theorem ext_getD {l m : List (List Nat)} (hl : l.length = m.length) (h : ∀ d, l.getD d [] = m.getD d []) : l = m := by
  apply List.ext_getElem?
  intro k
  have hk := h k
  rw [List.getD_eq_getElem?_getD, List.getD_eq_getElem?_getD] at hk
  by_cases q : k < l.length
  · rw [List.getElem?_eq_getElem q, List.getElem?_eq_getElem (by omega)] at hk ⊢
    exact congrArg some hk
  · rw [List.getElem?_eq_none (by omega), List.getElem?_eq_none (by omega)]
theorem punched_perm {cards : List (List Nat)} {cs cs' : List Nat} (p : Nat) (hp : cs.Perm cs') (hn : cs.Nodup) (hl : ∀ c ∈ cs, c < cards.length) : Vbenag.punched cards cs p = Vbenag.punched cards cs' p := by
  refine ext_getD (by rw [punched_len, punched_len]) fun d => ?_
  rw [punched_getD p cs cards hn hl, punched_getD p cs' cards (hp.nodup_iff.mp hn) (fun c hc => hl c (hp.mem_iff.mpr hc))]
  by_cases q : d ∈ cs
  · rw [if_pos q, if_pos (hp.mem_iff.mp q)]
  · rw [if_neg q, if_neg fun z => q (hp.mem_iff.mpr z)]
theorem holes_used {s : Vbenag.State} (h : Wf s) {ts : List Nat} (ht : ∀ t ∈ ts, t < s.terms) : ∀ c ∈ Vbenag.holesFor ts, c ∈ Vbenag.used s := by
  have h11 := h.t11
  have chk : ∀ T, T < 12 → ∀ c ∈ [0, 1, 2, 4, 8], c ∈ usedT T := by decide
  have key : ∀ c ∈ 0 :: (ts.map Vbenag.cardOf ++ partsOf ts), c ∈ Vbenag.used s := fun c hc => by
    rcases List.mem_cons.mp hc with e | hc
    · rw [e]; exact chk s.terms (by omega) 0 (by decide)
    · rcases List.mem_append.mp hc with hc | hc
      · obtain ⟨t, h1, rfl⟩ := List.mem_map.mp hc
        exact cardOf_used s.terms (by omega) t (ht t h1)
      · exact chk s.terms (by omega) c (List.mem_cons_of_mem _ (List.mem_filter.mp hc).1)
  intro c hc
  rw [holes_eq] at hc
  split at hc
  · exact key c hc
  · exact key c (List.mem_cons_of_mem _ hc)
theorem holes_nodup {ts : List Nat} (hi : Inc ts) (ht : ∀ t ∈ ts, t < 11) : (Vbenag.holesFor ts).Nodup := by
  rw [holes_eq]
  split
  · exact nodup_holes hi ht
  · exact (List.nodup_cons.mp (nodup_holes hi ht)).2
theorem row_ne_any {s : Vbenag.State} (h : Wf s) (c : Nat) (ns : List Int) : HO.lst (ns.map V.int) ≠ HO.lst (rowV s c) := fun e => by
  have e : ns.map V.int = rowV s c := HO.lst.inj e
  have q := row_at (s := s) (c := c) (p := 0) h.p1
  rw [← e, List.getElem?_map] at q
  cases z : ns[0]? with
  | none => rw [z] at q; cases q
  | some x => rw [z] at q; cases q
theorem cells_ne_any {s : Vbenag.State} (h : Wf s) {cs : List (Option Addr)} (hc : cs.length = s.places) (ns : List Int) : HO.lst (ns.map V.int) ≠ HO.lst (cs.map cellV) := fun e => by
  have e : ns.map V.int = cs.map cellV := HO.lst.inj e
  have hp := h.p1
  have hl : 0 < cs.length := by omega
  have q : (cs.map cellV)[0]? = some (cellV cs[0]) := by rw [List.getElem?_map, List.getElem?_eq_getElem hl]; rfl
  rw [← e, List.getElem?_map] at q
  cases z : ns[0]? with
  | none => rw [z] at q; cases q
  | some x =>
    rw [z] at q
    have q := Option.some.inj q
    cases hz : cs[0] with
    | none => rw [hz] at q; cases q
    | some _ => rw [hz] at q; cases q
theorem FileG.notOwn {C : Addr} {H : Hp} {a : Addr} {y : Lay} {s : Vbenag.State} {ls : List Nat} (h : FileG C H a y s ls) {b : Addr} {ns : List Int} (hb : Rd H b (.lst (ns.map V.int))) : b ∉ own a y := by
  have key : ∀ o, H b = some o → (o = .lst (ns.map V.int) ∨ ∃ ob, o = .frz ob (.lst (ns.map V.int))) → b ∉ own a y := by
    intro o e ho q
    simp only [own, List.mem_cons] at q
    rcases ho with rfl | ⟨ob, rfl⟩
    · rcases q with z | z | z | z | z
      · exact ne_of e h.obj (by intro z; cases z) z
      · exact ne_of e h.holes (by intro z; cases z) z
      · exact ne_of e h.items (cells_ne_any h.wf h.clen ns) z
      · exact ne_of e h.lost (by intro z; cases z) z
      · obtain ⟨i, hi⟩ := List.getElem?_of_mem z
        have hl : i < (Vbenag.used s).length := by rw [← h.rlen]; exact (List.getElem?_eq_some_iff.mp hi).1
        exact ne_of e (h.row i _ b (List.getElem?_eq_getElem hl) hi) (row_ne_any h.wf _ ns) rfl
    · rcases q with z | z | z | z | z
      · exact ne_of e h.obj (by intro z; cases z) z
      · exact ne_of e h.holes (by intro z; cases z) z
      · exact ne_of e h.items (by intro z; cases z) z
      · exact ne_of e h.lost (by intro z; cases z) z
      · obtain ⟨i, hi⟩ := List.getElem?_of_mem z
        have hl : i < (Vbenag.used s).length := by rw [← h.rlen]; exact (List.getElem?_eq_some_iff.mp hi).1
        exact ne_of e (h.row i _ b (List.getElem?_eq_getElem hl) hi) (by intro z; cases z) rfl
  rcases hb with e | ⟨ob, e⟩
  · exact key _ e (.inl rfl)
  · exact key _ e (.inr ⟨ob, rfl⟩)
theorem FileG.keepL {C : Addr} {K : PySem.W.Frag} {H H' : Hp} {a : Addr} {y y' : Lay} {s : Vbenag.State} {ls : List Nat} (h : FileG C H a y s ls) (g : Chg a y y' H H') {b : Addr} {ns : List Int} (hb : SqL K H b (ns.map V.int)) : SqL K H' b (ns.map V.int) := by
  rcases hb with q | q
  · have n := h.notOwn q
    rcases q with e | ⟨ob, e⟩
    · exact .inl (.inl (g.frm _ _ e n))
    · exact .inl (.inr ⟨ob, g.frm _ _ e n⟩)
  · exact .inr q
def itemS (s : Vbenag.State) (p : Nat) (ts : List Nat) : Vbenag.State := { s with items := s.items.set p (some ts) }
theorem Wf.item {s : Vbenag.State} (h : Wf s) {p : Nat} {ts : List Nat} (hi : Inc ts) (ht : ∀ t ∈ ts, t < s.terms) : Wf (itemS s p ts) := by
  refine ⟨h.t1, h.t11, h.p1, h.p40, h.cl, h.inc, h.lt, h.lostI, h.lostU, h.lost4, h.lostE, ?_, fun m hm => ?_⟩
  · show (s.items.set _ _).length = s.places
    rw [List.length_set]; exact h.il
  · rcases List.mem_or_eq_of_mem_set hm with z | z
    · exact h.it m z
    · cases z
      exact ⟨hi, ht⟩
theorem FileG.setCell {C : Addr} {H : Hp} {a : Addr} {y : Lay} {s : Vbenag.State} {ls : List Nat} (h : FileG C H a y s ls) {p : Nat} {ts : List Nat} {b : Addr} (hp : p < s.places) (hi : Inc ts) (ht : ∀ t ∈ ts, t < s.terms) (hb : H b = some (.lst (ts.map nV))) {H0 : Hp} (h0 : Same H0 H) (nb : H0 b = none) :
    FileG C (upd H y.hi (.lst ((y.cells.set p (some b)).map cellV))) a { y with cells := y.cells.set p (some b) } (itemS s p ts) ls ∧ Chg a y { y with cells := y.cells.set p (some b) } H0 (upd H y.hi (.lst ((y.cells.set p (some b)).map cellV))) := by
  have n1 : a ≠ y.hi := ne_of h.obj h.items (by intro z; cases z)
  have n2 : y.hc ≠ y.hi := ne_of h.cards h.items fun z => cells_ne_ints h.wf h.clen _ z.symm
  have n3 : y.hh ≠ y.hi := ne_of h.holes h.items (by intro z; cases z)
  have n4 : y.hl ≠ y.hi := ne_of h.lost h.items (by intro z; cases z)
  have n5 : ∀ (d : Addr) (l : List Nat), H d = some (.lst (l.map nV)) → d ≠ y.hi := fun d l e => ne_of e h.items fun z => cells_ne_ints h.wf h.clen l z.symm
  refine ⟨⟨h.wf.item hi ht, ?_, ?_, ?_, h.rlen, fun i c r h1 h2 => ?_, h.rnd, upd_same, ?_, fun q hq => ?_, fun q d hq => ?_, ?_, h.losP⟩, fun d o e n => ?_, fun d hd => .inl hd, fun d o e => ?_, fun d hd => ?_⟩
  · rw [upd_ne n1]; exact h.obj
  · exact (upd_ne n2).trans h.cards
  · exact (upd_ne n3).trans h.holes
  · have e := h.row i c r h1 h2
    rw [upd_ne (ne_of e h.items (row_ne_cells h.wf c _))]
    exact e
  · show (y.cells.set p (some b)).length = _
    rw [List.length_set]; exact h.clen
  · have hq : (y.cells.set p (some b))[q]? = some none := hq
    show (s.items.set p (some ts))[q]? = some none
    by_cases e : q = p
    · subst e
      rw [List.getElem?_set_self (by rw [h.clen]; exact hp)] at hq
      cases hq
    · rw [List.getElem?_set_ne (fun z => e z.symm)] at hq ⊢
      exact h.cellN q hq
  · have hq : (y.cells.set p (some b))[q]? = some (some d) := hq
    show ∃ l, (s.items.set p (some ts))[q]? = some (some l) ∧ _
    by_cases e : q = p
    · subst e
      rw [List.getElem?_set_self (by rw [h.clen]; exact hp)] at hq
      cases hq
      rw [List.getElem?_set_self (by rw [h.wf.il]; exact hp)]
      exact ⟨ts, rfl, by rw [upd_ne (n5 b ts hb)]; exact hb⟩
    · rw [List.getElem?_set_ne (fun z => e z.symm)] at hq ⊢
      obtain ⟨l, h1, h2⟩ := h.cellS q d hq
      exact ⟨l, h1, by rw [upd_ne (n5 d l h2)]; exact h2⟩
  · exact (upd_ne n4).trans h.lost
  · rw [upd_ne (fun z => n (by rw [z]; simp [own]))]
    exact h0 _ _ e
  · by_cases z : d = y.hi
    · exact ⟨_, by rw [z]; exact upd_same⟩
    · exact ⟨o, by rw [upd_ne z]; exact h0 _ _ e⟩
  · rcases List.mem_append.mp hd with z | z
    · exact .inl (List.mem_append_left _ z)
    · rcases List.mem_cons.mp z with z | z
      · exact .inl (List.mem_append_right _ (by rw [z]; exact List.mem_cons_self ..))
      · obtain ⟨o, ho, e⟩ := List.mem_filterMap.mp z
        rcases List.mem_or_eq_of_mem_set ho with q | q
        · exact .inl (List.mem_append_right _ (List.mem_cons_of_mem _ (List.mem_filterMap.mpr ⟨o, q, e⟩)))
        · rw [q] at e
          cases e
          exact .inr nb
theorem FileG.cellAt {C : Addr} {H : Hp} {a : Addr} {y : Lay} {s : Vbenag.State} {ls : List Nat} (h : FileG C H a y s ls) {p : Nat} (hp : p < s.places) : ∃ o, y.cells[p]? = some o ∧ (y.cells.map cellV)[p]? = some (cellV o) ∧
    ((o = none ∧ s.items.getD p none = none) ∨ ∃ b l, o = some b ∧ s.items.getD p none = some l ∧ H b = some (.lst (l.map nV))) := by
  have hl : p < y.cells.length := by rw [h.clen]; exact hp
  refine ⟨y.cells[p], List.getElem?_eq_getElem hl, by rw [List.getElem?_map, List.getElem?_eq_getElem hl]; rfl, ?_⟩
  cases e : y.cells[p] with
  | none =>
    have := h.cellN p (by rw [List.getElem?_eq_getElem hl, e])
    exact .inl ⟨rfl, by rw [List.getD_eq_getElem?_getD, this]; rfl⟩
  | some b =>
    obtain ⟨l, h1, h2⟩ := h.cellS p b (by rw [List.getElem?_eq_getElem hl, e])
    exact .inr ⟨b, l, rfl, by rw [List.getD_eq_getElem?_getD, h1]; rfl, h2⟩
section
variable {P : Program} {w : World} {K : PySem.W.Frag} {mg : Str → Option Value} {base : Heap} {C tc pc : Addr}
def spItem (K : PySem.W.Frag) (C : Addr) : Sp := fun vs H Q _ => ∃ (a b : Addr) (y : Lay) (s : Vbenag.State) (p : Int) (ns : List Int), vs = [.ref a, .int p, .ref b] ∧ FileAt C H a y s ∧ SqL K H b (ns.map V.int) ∧ CallEnd C a y H Q (Vbenag.step s [[1, p], ns])
theorem sc_enter_item : FnScope ["card_file", "place", "terms", "cards", "card"] ["card_file", "place", "terms"] (defScope s_enter_item) := ⟨rfl, rfl, rfl, by decide +kernel, rfl, by decide +kernel, by decide +kernel⟩
theorem ok_enter_item {f : Addr} {fd : FuncData} (F : Fun K "enter_item" "enter_item" s_enter_item f fd) (T : Txt K mg C tc pc)
    (MP : MOk P w K mg base C "is_place" 1 ["self", "number"] (spIsPlace C)) (MA : MOk P w K mg base C "are_terms" 2 ["self", "numbers"] (spAreTerms K C)) (GI : GOk P w K mg base "item_holes" 2 ["terms"] (spItemHoles K))
    (MT : MOk P w K mg base C "turn_hole" 1 ["self", "card", "place"] (spTurnHole C)) (GN : GOk P w K mg base "counted" 1 ["numbers"] spCounted) : FnOk P w K mg base CX0 3 f fd ["card_file", "place", "terms"] (spItem K C) := by
  refine F.ok sc_enter_item (fun vs H Q E h => ?_) (fun cdv A outer s H vs Q E hr h => ?_)
  · obtain ⟨a, b, y, s, p, ns, rfl, _⟩ := h
    rfl
  · obtain ⟨a, b, y, st, p, ns, rfl, hF, hb, k⟩ := h
    obtain ⟨_, g1⟩ := T.i1
    obtain ⟨_, g4⟩ := T.i4
    obtain ⟨_, g5⟩ := T.i5
    have nd := sc_enter_item.nd
    have hr1 : Room 1 _ := hr.mono (by decide)
    refine ⟨_, pss_cons (ps_if (PW.pt (pw_or (pt_not (pt_val (pe_m MP T.cl hr1 (pv 0) (pa_cons (pv 1) pa_nil)))) (pw_or1 (pt_not (pt_val (pe_m MA T.cl hr (pv 0) (pa_cons (pv 2) pa_nil)))))))
        (pss_one (ps_ret (pe_lst (pa_cons (pe_gint rfl g1) pa_nil)))) pss_nil)
      (pss_cons (ps_if (pt_cmpR op_notN (pe_ix ix_list (pe_fld (pv 0) rfl) (pv 1) (fun _ _ => rfl)) pe_non (nomark _)) (pss_one (ps_ret (pe_lst (pa_cons (pe_gint rfl g4) pa_nil)))) pss_nil)
      (pss_cons (ps_if (pt_cmpR op_gt (pe_callB call_lenD (by rfl) T.len PySem.boot_len (pa_cons (pe_fld (pv 0) rfl) pa_nil)) pe_int (nomark _)) (pss_one (ps_ret (pe_lst (pa_cons (pe_gint rfl g5) pa_nil)))) pss_nil)
      (pss_cons (ps_asg (pe_callTy call_list_of (by rfl) T.list PyProof.Rows.boot_list (pa_cons (pv 2) pa_nil)) (pg_sub (pe_fld (pv 0) rfl) (pv 1) set_list))
      (pss_cons (ps_set (i := 3) nd rfl (Or.inl rfl) (pe_g GI hr rfl (pa_cons (pv 2) pa_nil)))
      (pss_cons (ps_for PassesOwn.never rfl (pi_list (pv 3)) (pg_name (i := 4) nd rfl (Or.inl rfl))
        (pss_one (ps_expr (pe_m MT T.cl hr1 (pv 0) (pa_cons (pv 4) (pa_cons (pv 1) pa_nil))))))
      (pss_one (ps_ret (pe_g GN hr1 rfl (pa_cons (pv 3) pa_nil))))))))), ?_⟩
    rw [step_in (d := .item p ns) rfl] at k
    have hin : Vbenag.inRange st (.item p ns) = (Vbenag.isPlace st p && Vbenag.isTerms st ns) := rfl
    rw [hin] at k
    refine ⟨_, rfl, a, _, _, rfl, hF.obj, rfl, _, rfl, a, y, st, p, rfl, hF, _, rfl, ?_⟩
    by_cases hp : Vbenag.isPlace st p = true
    · rw [hp]
      rw [hp, Bool.true_and] at k
      refine ⟨_, rfl, a, _, _, rfl, hF.obj, rfl, _, rfl, a, b, y, st, ns, rfl, hF, hb, _, rfl, ?_⟩
      by_cases ht : Vbenag.isTerms st ns = true
      · rw [ht]
        rw [ht] at k
        obtain ⟨ep, mp⟩ := place_nat hp
        obtain ⟨et, ti, tl⟩ := terms_nat ht
        generalize hts : ns.map Int.toNat = ts at et ti tl
        replace k : CallEnd C a y H Q (if (st.items.getD p.toNat none).isSome = true then Vbenag.no st 4 else if st.lost.isEmpty = false then Vbenag.no st 5 else
            ({ st with cards := Vbenag.punched st.cards (Vbenag.holesFor (ns.map Int.toNat)) p.toNat, items := st.items.set p.toNat (some (ns.map Int.toNat)) }, Vbenag.listRow (VbenCore.sortBy (fun a b => decide (a < b)) (Vbenag.holesFor (ns.map Int.toNat))))) := k
        rw [hts] at k
        generalize p.toNat = q at ep mp k
        subst ep
        obtain ⟨o, c1, c2, c3⟩ := hF.cellAt mp
        refine ⟨_, rfl, a, C, _, _, _, rfl, hF.obj, T.cl, T.nI, rfl, _, rfl, y.hi, _, _, _, rfl, rfl, SqL.of hF.items, atI_nat c2, rfl, _, rfl, ?_⟩
        rcases c3 with ⟨rfl, e0⟩ | ⟨b0, l0, rfl, e0, _⟩
        · rw [e0, if_neg (by decide)] at k
          refine iteF ?_
          refine ⟨_, rfl, a, C, _, _, _, rfl, hF.obj, T.cl, T.nL, rfl, y.hl, _, rfl, hF.lost, _, _, rfl, rfl, _, rfl, ?_⟩
          rw [lost_len hF]
          refine ite2 (fun z => ?_) fun z => ?_
          · have z : (0 : Int) < (st.lost.length : Int) := of_decide_eq_true z
            rw [if_pos (by cases e : st.lost with
              | nil => rw [e] at z; simp at z
              | cons _ _ => rfl)] at k
            exact ⟨(by show 1 ≤ sizeLine; decide), fun p1 n1 => k.same hF (same_new n1) n1 upd_same⟩
          · have z : ¬ (0 : Int) < (st.lost.length : Int) := fun w' => z (decide_eq_true w')
            have hl0 : st.lost = [] := List.eq_nil_of_length_eq_zero (by omega)
            rw [if_neg (by rw [hl0]; decide)] at k
            have t11 : ∀ t ∈ ts, t < 11 := fun t h => Nat.lt_of_lt_of_le (tl t h) hF.wf.t11
            refine ⟨_, rfl, b, _, rfl, .inl hb, fun D1 n1 => ?_⟩
            rw [et]
            have hF1 := hF.same (same_new n1 (o := .lst (ts.map nV)))
            refine ⟨_, rfl, a, C, _, _, _, rfl, hF1.obj, T.cl, T.nI, rfl, _, rfl, y.hi, _, _, q, rfl, rfl, hF1.items, ixN_nat (by rw [List.length_map, hF.clen]; exact mp), ?_⟩
            rw [show V.ref D1 = cellV (some D1) from rfl, ← List.map_set]
            obtain ⟨hF2, gg2⟩ := hF1.setCell (p := q) (ts := ts) mp ti tl upd_same (same_new n1) n1
            generalize upd (upd H D1 (.lst (ts.map nV))) y.hi (.lst ((y.cells.set q (some D1)).map cellV)) = H2 at hF2 gg2 ⊢
            have hb2 := hF.keepL (K := K) gg2 hb
            rw [et] at hb2
            generalize ({ y with cells := y.cells.set q (some D1) } : Lay) = y2 at hF2 gg2
            refine ⟨_, rfl, b, ts, rfl, hb2, ti, t11, by have := inc_len ti t11; omega, fun H3 D3 s3 n3 e3 => ?_⟩
            have hF3 := hF2.same s3
            have hn := holes_nodup ti t11
            have hperm := sortBy_perm hn
            have hus : ∀ c ∈ VbenCore.sortBy ltb (Vbenag.holesFor ts), c ∈ Vbenag.used st := fun c hc => holes_used hF.wf tl c (hperm.mem_iff.mp hc)
            have hLn : (VbenCore.sortBy ltb (Vbenag.holesFor ts)).Nodup := hperm.nodup_iff.mpr hn
            generalize hL : VbenCore.sortBy ltb (Vbenag.holesFor ts) = L at hperm hus hLn e3
            refine ⟨_, rfl, D3, rfl, ⟨_, SqL.of e3⟩, for_list (K := K) (a := D3) (xs := L.map nV) (fun i σ H' => ∃ v : Option V, σ = [some (.ref a), some (.int (q : Int)), some (.ref b), some (.ref D3), v] ∧
                FileAt C H' a y2 { itemS st q ts with cards := Vbenag.punched st.cards (L.take i) q } ∧ Chg a y2 y2 H3 H')
              ⟨none, rfl, hF3, Chg.refl _ _ _⟩ (fun i σ H' _ ⟨_, _, _, g⟩ => SqL.of (g.frm _ _ e3 (hF2.free n3))) ?_ ?_⟩
            · rintro i x σ H' hi ⟨v, rfl, hF4, g⟩
              obtain ⟨c, hc, rfl⟩ := get_map hi
              have mc := List.mem_of_getElem? hc
              refine ⟨_, rfl, a, _, _, rfl, hF4.obj, rfl, _, rfl, _, rfl, a, y2, _, _, c, q, rfl, hF4, hus c mc, by rw [show ({ itemS st q ts with cards := Vbenag.punched st.cards (L.take i) q } : Vbenag.State).lost = st.lost from rfl, hl0]; exact List.not_mem_nil, mp, fun H5 hF5 g5 => ?_⟩
              refine ⟨_, rfl, ?_, g.trans g5⟩
              have e : Vbenag.toggled (Vbenag.punched st.cards (L.take i) q) c q = Vbenag.punched st.cards (L.take (i + 1)) q := by
                rw [take_succ_of hc]
                unfold Vbenag.punched
                rw [List.foldl_append]
                rfl
              have hF5 : FileAt C H5 a y2 { itemS st q ts with cards := Vbenag.toggled (Vbenag.punched st.cards (L.take i) q) c q } := hF5
              rw [e] at hF5
              exact hF5
            · rintro σ H' ⟨v, rfl, hF4, g⟩
              rw [List.length_map, List.take_length] at hF4
              have e4 : H' D3 = some (.lst (L.map nV)) := g.frm _ _ e3 (hF2.free n3)
              have hLl : L.length ≤ 16 := by
                rw [hperm.length_eq]
                exact inc_len (n := 16) (l := VbenCore.sortBy ltb (Vbenag.holesFor ts)) (inc_sortBy hn) (fun x hx => used_lt (holes_used hF.wf tl x ((mem_sortBy hn x).mp hx))) |> fun z => by rw [len_sortBy hn] at z; exact z
              refine ⟨_, rfl, D3, _, rfl, e4, by rw [List.length_map]; omega, fun H6 D6 s6 n6 e6 => ?_⟩
              have gall := ((gg2.sameR s3).trans g).sameR s6
              refine k H6 y2 D6 ?_ gall ((gg2.sameR s3).trans g |>.none n6) (hF4.free n6) ?_
              · have ec : Vbenag.punched st.cards L q = Vbenag.punched st.cards (Vbenag.holesFor ts) q := punched_perm q hperm hLn fun c hc => by rw [hF.wf.cl]; exact used_lt (hus c hc)
                rw [ec] at hF4
                exact hF4.same s6
              · rw [e6, List.length_map]
                show _ = some (HO.lst ((Vbenag.listRow (VbenCore.sortBy ltb (Vbenag.holesFor ts))).map V.int))
                rw [hL, listRow_V]
        · rw [e0, if_pos (show (some l0).isSome = true from rfl)] at k
          refine iteT ?_
          exact ⟨(by show 1 ≤ sizeLine; decide), fun p1 n1 => k.same hF (same_new n1) n1 upd_same⟩
      · rw [Bool.eq_false_iff.mpr ht]
        rw [Bool.eq_false_iff.mpr ht] at k
        exact ⟨(by show 1 ≤ sizeLine; decide), fun p1 n1 => k.same hF (same_new n1) n1 upd_same⟩
    · rw [Bool.eq_false_iff.mpr hp]
      rw [Bool.eq_false_iff.mpr hp, Bool.false_and] at k
      exact ⟨(by show 1 ≤ sizeLine; decide), fun p1 n1 => k.same hF (same_new n1) n1 upd_same⟩
end
end Hc
set_option Elab.async false
set_option linter.all false
set_option maxRecDepth 100000
set_option maxHeartbeats 4000000
namespace Hc
open PySem PySem.Spec PyProof.Rows L2
section
variable {P : Program} {w : World} {K : PySem.W.Frag} {mg : Str → Option Value} {base : Heap} {C tc pc : Addr}
def spCheck (C : Addr) : Sp := fun vs H Q _ => ∃ (a : Addr) (y : Lay) (s : Vbenag.State) (c : Int), vs = [.ref a, .int c] ∧ FileAt C H a y s ∧ CallEnd C a y H Q (Vbenag.step s [[6, c]])
theorem sc_holes_of_card : FnScope ["card_file", "card"] ["card_file", "card"] (defScope s_holes_of_card) := ⟨rfl, rfl, rfl, by decide +kernel, rfl, by decide +kernel, by decide +kernel⟩
theorem row_small {s : Vbenag.State} (h : Wf s) (c : Nat) : (s.cards.getD c []).length ≤ 40 := Nat.le_trans (inc_len (h.inc c) (h.lt c)) h.p40
theorem ok_holes_of_card {f : Addr} {fd : FuncData} (F : Fun K "holes_of_card" "holes_of_card" s_holes_of_card f fd) (T : Txt K mg C tc pc)
    (MC : MOk P w K mg base C "is_card" 1 ["self", "number"] (spIsCard C)) (ML : MOk P w K mg base C "is_lost" 1 ["self", "card"] (spIsLost C)) (MO : MOk P w K mg base C "places_of" 2 ["self", "card"] (spPlacesOf C))
    (GN : GOk P w K mg base "counted" 1 ["numbers"] spCounted) : FnOk P w K mg base CX0 3 f fd ["card_file", "card"] (spCheck C) := by
  refine F.ok sc_holes_of_card (fun vs H Q E h => ?_) (fun cdv A outer s H vs Q E hr h => ?_)
  · obtain ⟨a, y, s, c, rfl, _⟩ := h
    rfl
  · obtain ⟨a, y, st, c, rfl, hF, k⟩ := h
    obtain ⟨_, g1⟩ := T.i1
    obtain ⟨_, g5⟩ := T.i5
    have hr1 : Room 1 _ := hr.mono (by decide)
    refine ⟨_, pss_cons (ps_if (pt_not (pt_val (pe_m MC T.cl hr1 (pv 0) (pa_cons (pv 1) pa_nil)))) (pss_one (ps_ret (pe_lst (pa_cons (pe_gint rfl g1) pa_nil)))) pss_nil)
      (pss_cons (ps_if (pt_val (pe_m ML T.cl hr1 (pv 0) (pa_cons (pv 1) pa_nil))) (pss_one (ps_ret (pe_lst (pa_cons (pe_gint rfl g5) pa_nil)))) pss_nil)
      (pss_one (ps_ret (pe_g GN hr1 rfl (pa_cons (pe_m MO T.cl hr (pv 0) (pa_cons (pv 1) pa_nil)) pa_nil))))), ?_⟩
    rw [step_in (d := .check c) rfl] at k
    have hin : Vbenag.inRange st (.check c) = Vbenag.isCard st c := rfl
    rw [hin] at k
    refine ⟨_, rfl, a, _, _, rfl, hF.obj, rfl, _, rfl, a, y, st, c, rfl, hF, _, rfl, ?_⟩
    by_cases hc : Vbenag.isCard st c = true
    · rw [hc]
      rw [hc] at k
      obtain ⟨ec, mc⟩ := card_nat hc
      replace k : CallEnd C a y H Q (if st.lost.contains c.toNat = true then Vbenag.no st 5 else (st, Vbenag.listRow (st.cards.getD c.toNat []))) := k
      refine ⟨_, rfl, a, _, _, rfl, hF.obj, rfl, _, rfl, a, y, st, c.toNat, by rw [nV, ← ec]; rfl, hF, _, rfl, ?_⟩
      by_cases hl : st.lost.contains c.toNat = true
      · rw [hl]
        rw [if_pos hl] at k
        exact ⟨(by show 1 ≤ sizeLine; decide), fun p1 n1 => k.same hF (same_new n1) n1 upd_same⟩
      · rw [Bool.eq_false_iff.mpr hl]
        rw [if_neg hl] at k
        refine ⟨_, rfl, a, _, _, rfl, hF.obj, rfl, _, rfl, a, y, st, c.toNat, by rw [nV, ← ec]; rfl, hF, mc, fun H1 D1 s1 n1 e1 => ?_⟩
        refine ⟨D1, _, rfl, e1, by rw [List.length_map]; have := row_small hF.wf c.toNat; omega, fun H2 D2 s2 n2 e2 => ?_⟩
        refine k.same hF (s1.trans s2) (s1.free n2) ?_
        rw [e2, listRow_V, List.length_map]
    · rw [Bool.eq_false_iff.mpr hc]
      rw [Bool.eq_false_iff.mpr hc] at k
      exact ⟨(by show 1 ≤ sizeLine; decide), fun p1 n1 => k.same hF (same_new n1) n1 upd_same⟩
def spTerm (C : Addr) : Sp := fun vs H Q _ => ∃ (a : Addr) (y : Lay) (s : Vbenag.State) (t : Int), vs = [.ref a, .int t] ∧ FileAt C H a y s ∧ CallEnd C a y H Q (Vbenag.step s [[4, t]])
theorem sc_holes_of_term : FnScope ["card_file", "term"] ["card_file", "term"] (defScope s_holes_of_term) := ⟨rfl, rfl, rfl, by decide +kernel, rfl, by decide +kernel, by decide +kernel⟩
theorem card_is {s : Vbenag.State} (h : Wf s) {t : Nat} (ht : t < s.terms) : Vbenag.isCard s ((Vbenag.cardOf t : Nat) : Int) = true := by
  have h11 := h.t11
  show (decide ((0 : Int) ≤ _) && (Vbenag.used s).contains _) = true
  rw [Bool.and_eq_true, decide_eq_true_eq]
  exact ⟨by omega, List.contains_iff_mem.mpr (cardOf_used s.terms (by omega) t ht)⟩
theorem ok_holes_of_term {f : Addr} {fd : FuncData} (F : Fun K "holes_of_term" "holes_of_term" s_holes_of_term f fd) (T : Txt K mg C tc pc)
    (MT : MOk P w K mg base C "is_term" 1 ["self", "number"] (spIsTerm C)) (GO : GOk P w K mg base "card_of" 1 ["term"] spCardOf) (GC : GOk P w K mg base "holes_of_card" 3 ["card_file", "card"] (spCheck C)) :
    FnOk P w K mg base CX0 4 f fd ["card_file", "term"] (spTerm C) := by
  refine F.ok sc_holes_of_term (fun vs H Q E h => ?_) (fun cdv A outer s H vs Q E hr h => ?_)
  · obtain ⟨a, y, s, c, rfl, _⟩ := h
    rfl
  · obtain ⟨a, y, st, t, rfl, hF, k⟩ := h
    obtain ⟨_, g1⟩ := T.i1
    have hr1 : Room 1 _ := hr.mono (by decide)
    refine ⟨_, pss_cons (ps_if (pt_not (pt_val (pe_m MT T.cl hr1 (pv 0) (pa_cons (pv 1) pa_nil)))) (pss_one (ps_ret (pe_lst (pa_cons (pe_gint rfl g1) pa_nil)))) pss_nil)
      (pss_one (ps_ret (pe_g GC hr rfl (pa_cons (pv 0) (pa_cons (pe_g GO hr1 rfl (pa_cons (pv 1) pa_nil)) pa_nil))))), ?_⟩
    rw [step_in (d := .term t) rfl] at k
    have hin : Vbenag.inRange st (.term t) = Vbenag.isTerm st t := rfl
    rw [hin] at k
    refine ⟨_, rfl, a, _, _, rfl, hF.obj, rfl, _, rfl, a, y, st, t, rfl, hF, _, rfl, ?_⟩
    by_cases hc : Vbenag.isTerm st t = true
    · rw [hc]
      rw [hc] at k
      obtain ⟨et, mt⟩ := term_nat hc
      have h11 := hF.wf.t11
      refine ⟨_, rfl, _, rfl, t.toNat, by rw [nV, ← et]; rfl, by omega, a, y, st, ((Vbenag.cardOf t.toNat : Nat) : Int), rfl, hF, ?_⟩
      rw [step_in (d := .check ((Vbenag.cardOf t.toNat : Nat) : Int)) rfl]
      rw [show Vbenag.inRange st (.check ((Vbenag.cardOf t.toNat : Nat) : Int)) = Vbenag.isCard st ((Vbenag.cardOf t.toNat : Nat) : Int) from rfl, card_is hF.wf mt]
      have e : Vbenag.act st (.check ((Vbenag.cardOf t.toNat : Nat) : Int)) = Vbenag.act st (.term t) := by
        show (if st.lost.contains (Vbenag.cardOf t.toNat) = true then Vbenag.no st 5 else (st, Vbenag.listRow (st.cards.getD (Vbenag.cardOf t.toNat) []))) =
          (if (([t.toNat] : List Nat).any fun t => st.lost.contains (Vbenag.cardOf t)) = true then Vbenag.no st 5 else (st, Vbenag.listRow (st.cards.getD (Vbenag.cardOf t.toNat) [])))
        rw [List.any_cons, List.any_nil, Bool.or_false]
      rw [e]
      exact k
    · rw [Bool.eq_false_iff.mpr hc]
      rw [Bool.eq_false_iff.mpr hc] at k
      exact ⟨(by show 1 ≤ sizeLine; decide), fun p1 n1 => k.same hF (same_new n1) n1 upd_same⟩
def spItemCard (C : Addr) : Sp := fun vs H Q _ => ∃ (a : Addr) (y : Lay) (s : Vbenag.State) (p : Int), vs = [.ref a, .int p] ∧ FileAt C H a y s ∧ CallEnd C a y H Q (Vbenag.step s [[5, p]])
theorem sc_item_card_at : FnScope ["card_file", "place", "told"] ["card_file", "place"] (defScope s_item_card_at) := ⟨rfl, rfl, rfl, by decide +kernel, rfl, by decide +kernel, by decide +kernel⟩
theorem getD_mem {α : Type} {l : List (Option α)} {p : Nat} {x : α} (h : l.getD p none = some x) : some x ∈ l := by
  rw [List.getD_eq_getElem?_getD] at h
  cases e : l[p]? with
  | none => rw [e] at h; cases h
  | some o =>
    rw [e] at h
    have h : o = some x := h
    subst h
    exact List.mem_of_getElem? e
theorem ok_item_card_at {f : Addr} {fd : FuncData} (F : Fun K "item_card_at" "item_card_at" s_item_card_at f fd) (T : Txt K mg C tc pc)
    (MP : MOk P w K mg base C "is_place" 1 ["self", "number"] (spIsPlace C)) (GN : GOk P w K mg base "counted" 1 ["numbers"] spCounted) : FnOk P w K mg base CX0 2 f fd ["card_file", "place"] (spItemCard C) := by
  refine F.ok sc_item_card_at (fun vs H Q E h => ?_) (fun cdv A outer s H vs Q E hr h => ?_)
  · obtain ⟨a, y, s, c, rfl, _⟩ := h
    rfl
  · obtain ⟨a, y, st, p, rfl, hF, k⟩ := h
    obtain ⟨_, g1⟩ := T.i1
    have nd := sc_item_card_at.nd
    refine ⟨_, pss_cons (ps_if (pt_not (pt_val (pe_m MP T.cl hr (pv 0) (pa_cons (pv 1) pa_nil)))) (pss_one (ps_ret (pe_lst (pa_cons (pe_gint rfl g1) pa_nil)))) pss_nil)
      (pss_cons (ps_set (i := 2) nd rfl (Or.inl rfl) (pe_ix ix_list (pe_fld (pv 0) rfl) (pv 1) (fun _ _ => rfl)))
      (pss_cons (ps_if (pt_cmpR op_isN (pv 2) pe_non (nomark _)) (pss_one (ps_ret (pe_lst (pa_cons pe_int pa_nil)))) pss_nil)
      (pss_one (ps_ret (pe_op op_cat (pe_lst (pa_cons pe_int pa_nil)) (pe_g GN hr rfl (pa_cons (pv 2) pa_nil))))))), ?_⟩
    rw [step_in (d := .itemCard p) rfl] at k
    have hin : Vbenag.inRange st (.itemCard p) = Vbenag.isPlace st p := rfl
    rw [hin] at k
    refine ⟨_, rfl, a, _, _, rfl, hF.obj, rfl, _, rfl, a, y, st, p, rfl, hF, _, rfl, ?_⟩
    by_cases hp : Vbenag.isPlace st p = true
    · rw [hp]
      rw [hp] at k
      obtain ⟨ep, mp⟩ := place_nat hp
      replace k : CallEnd C a y H Q (st, match st.items.getD p.toNat none with | none => [0] | some l => 1 :: Vbenag.listRow l) := k
      generalize p.toNat = q at ep mp k
      subst ep
      obtain ⟨o, c1, c2, c3⟩ := hF.cellAt mp
      refine ⟨_, rfl, a, C, _, _, _, rfl, hF.obj, T.cl, T.nI, rfl, _, rfl, y.hi, _, _, _, rfl, rfl, SqL.of hF.items, atI_nat c2, ?_⟩
      refine ⟨_, rfl, rfl, _, rfl, ?_⟩
      rcases c3 with ⟨rfl, e0⟩ | ⟨b0, l0, rfl, e0, e1⟩
      · rw [e0] at k
        refine iteT ⟨(by show 1 ≤ sizeLine; decide), fun p1 n1 => k.same hF (same_new n1) n1 upd_same⟩
      · rw [e0] at k
        have hl0 := hF.wf.it l0 (getD_mem e0)
        have hl40 : l0.length ≤ 40 := Nat.le_trans (inc_len hl0.1 hl0.2) (by have := hF.wf.t11; omega)
        refine iteF ?_
        refine ⟨(by show 1 ≤ sizeLine; decide), fun p1 n1 => ?_⟩
        refine ⟨_, rfl, b0, _, rfl, same_new n1 _ _ e1, by rw [List.length_map]; omega, fun H2 D2 s2 n2 e2 => ?_⟩
        refine ⟨p1, D2, _, _, rfl, rfl, s2 _ _ upd_same, e2, ?_, fun D3 n3 => ?_⟩
        · simp only [List.length_cons, List.length_map, List.length_nil, sizeLine_eq]
          omega
        · have s3 : Same H H2 := (same_new n1).trans s2
          refine k.same hF (s3.trans (same_new n3)) (s3.free n3) ?_
          rw [upd_same, List.length_map]
          show _ = some (HO.lst (V.int 1 :: (Vbenag.listRow l0).map V.int))
          rw [listRow_V]
          rfl
    · rw [Bool.eq_false_iff.mpr hp]
      rw [Bool.eq_false_iff.mpr hp] at k
      exact ⟨(by show 1 ≤ sizeLine; decide), fun p1 n1 => k.same hF (same_new n1) n1 upd_same⟩
end
end Hc
set_option Elab.async false
set_option linter.all false
set_option maxRecDepth 100000
set_option maxHeartbeats 4000000
namespace Hc
open PySem PySem.Spec PyProof.Rows L2
theorem any_map_id {α : Type} (l : List α) (f : α → Bool) : (l.map f).any id = l.any f := by
  rw [List.any_map]
  rfl
theorem all_map_id {α : Type} (l : List α) (f : α → Bool) : (l.map f).all id = l.all f := by
  rw [List.all_map]
  rfl
theorem bl_map {α : Type} (l : List α) (f : α → Bool) : l.map (fun x => V.bl (f x)) = (l.map f).map V.bl := by
  rw [List.map_map]
  rfl
theorem range_take_filter {n i : Nat} (p : Nat → Bool) (h : i < n) : ((List.range n).take (i + 1)).filter p = ((List.range n).take i).filter p ++ (if p i = true then [i] else []) := by
  rw [take_succ_of (List.getElem?_range h), List.filter_append, List.filter_cons, List.filter_nil]
theorem range_take_len {n i : Nat} (p : Nat → Bool) : (((List.range n).take i).filter p).length ≤ n := by
  have := len_filt_take (List.range n) p i
  rw [List.length_range] at this
  exact this
section
variable {P : Program} {w : World} {K : PySem.W.Frag} {mg : Str → Option Value} {base : Heap} {C tc pc : Addr}
def SeqAt' (K : PySem.W.Frag) (H : Hp) (b : Addr) (ps : List Nat) : Prop := SqL K H b (ps.map nV) ∨ H b = some (.tup (ps.map nV))
def spStill (K : PySem.W.Frag) (C : Addr) : Sp := fun vs H Q _ => ∃ (a b : Addr) (y : Lay) (s : Vbenag.State) (ps : List Nat) (t : Nat), vs = [.ref a, .ref b, nV t] ∧ FileAt C H a y s ∧ SeqAt' K H b ps ∧ ps.length < 1000 ∧ (∀ p ∈ ps, p < s.places) ∧ t < s.terms ∧
  ∀ H' D, Same H H' → H D = none → H' D = some (.lst ((ps.filter fun p => Vbenag.isHole s (Vbenag.cardOf t) p).map nV)) → Q (.ref D) H'
theorem sc_still : FnScope ["card_file", "places", "term", "card", "place"] ["card_file", "places", "term"] (defScope s_still_shining) := ⟨rfl, rfl, rfl, by decide +kernel, rfl, by decide +kernel, by decide +kernel⟩
theorem card_used {s : Vbenag.State} (h : Wf s) {t : Nat} (ht : t < s.terms) : Vbenag.cardOf t ∈ Vbenag.used s := cardOf_used s.terms (by have := h.t11; omega) t ht
theorem ok_still {f : Addr} {fd : FuncData} (F : Fun K "still_shining" "still_shining" s_still_shining f fd) (T : Txt K mg C tc pc)
    (GO : GOk P w K mg base "card_of" 1 ["term"] spCardOf) (MH : MOk P w K mg base C "has_hole" 1 ["self", "card", "place"] (spHasHole C)) : FnOk P w K mg base CX0 2 f fd ["card_file", "places", "term"] (spStill K C) := by
  refine F.ok sc_still (fun vs H Q E h => ?_) (fun cdv A outer s H vs Q E hr h => ?_)
  · obtain ⟨a, b, y, s, ps, t, rfl, _⟩ := h
    rfl
  · obtain ⟨a, b, y, st, ps, t, rfl, hF, hb, hl, hp, ht, k⟩ := h
    have nd := sc_still.nd
    have t11 : t < 11 := Nat.lt_of_lt_of_le ht hF.wf.t11
    have lc : LcOk ps nV (fun p => Vbenag.isHole st (Vbenag.cardOf t) p) nV 4 (tB (tMeth C "has_hole" (spHasHole C) [] E0 (tVar 0) (tCons (tVar 3) (tCons (tVar 4) tNil)))) (tVar 4) [some (V.ref a), some (V.ref b), some (nV t), some (nV (Vbenag.cardOf t)), none] H Q := by
      refine ⟨hl, fun p hp' H2 R s2 q => ?_, fun p hp' _ H2 R s2 q => ?_, fun D H2 hD s2 e => k H2 D s2 hD e⟩
      · have hF2 := hF.same s2
        exact ⟨_, rfl, a, _, _, rfl, hF2.obj, rfl, _, rfl, _, rfl, a, y, st, Vbenag.cardOf t, p, rfl, hF2, card_used hF.wf ht, hp p hp', _, rfl, q H2 (Same.refl _)⟩
      · exact ⟨_, rfl, q H2 (Same.refl _)⟩
    rcases hb with hb | hb
    · refine ⟨_, pss_cons (ps_set (i := 3) nd rfl (Or.inr rfl) (pe_g GO hr rfl (pa_cons (pv 2) pa_nil)))
        (pss_one (ps_ret (pe_lc (own := [("place", 4)]) rfl nd (pi_list (pv 1)) (blkOk_by rfl)
          (fun s H C cl fp => pg_name (i := 4) nd rfl (Or.inl rfl) (Or.inr rfl))
          (fun s H C' cl fp => pts_one (pt_val (pe_m MH T.cl hr (pv 0) (pa_cons (pv 3) (pa_cons (pv 4) pa_nil)))))
          (fun s H C cl fp => pv 4)))), ?_⟩
      refine tSet_i (tCall1_i (tVar_i rfl ⟨t, rfl, t11, tRet_i ?_⟩))
      exact lcLv (K := K) (j := 1) ps nV (fun p => Vbenag.isHole st (Vbenag.cardOf t) p) nV rfl hb lc
    · refine ⟨_, pss_cons (ps_set (i := 3) nd rfl (Or.inr rfl) (pe_g GO hr rfl (pa_cons (pv 2) pa_nil)))
        (pss_one (ps_ret (pe_lc (own := [("place", 4)]) rfl nd (pi_tup (pv 1)) (blkOk_by rfl)
          (fun s H C cl fp => pg_name (i := 4) nd rfl (Or.inl rfl) (Or.inr rfl))
          (fun s H C' cl fp => pts_one (pt_val (pe_m MH T.cl hr (pv 0) (pa_cons (pv 3) (pa_cons (pv 4) pa_nil)))))
          (fun s H C cl fp => pv 4)))), ?_⟩
      refine tSet_i (tCall1_i (tVar_i rfl ⟨t, rfl, t11, tRet_i ?_⟩))
      exact ⟨_, rfl, lcT (K := K) ps nV (fun p => Vbenag.isHole st (Vbenag.cardOf t) p) nV (fun H2 s2 => SqT.of (s2 _ _ hb)) lc⟩
theorem light_snoc (s : Vbenag.State) (ts : List Nat) (t : Nat) : Vbenag.light s (ts ++ [t]) = (Vbenag.light s ts).filter fun p => Vbenag.isHole s (Vbenag.cardOf t) p := by
  unfold Vbenag.light
  rw [List.filter_filter]
  refine List.filter_congr fun p _ => ?_
  rw [List.all_append, List.all_cons, List.all_nil, Bool.and_true, Bool.and_comm]
theorem light_lt {s : Vbenag.State} {ts : List Nat} {p : Nat} (h : p ∈ Vbenag.light s ts) : p < s.places := List.mem_range.mp (List.mem_filter.mp h).1
theorem light_len {s : Vbenag.State} (h : Wf s) (ts : List Nat) : (Vbenag.light s ts).length ≤ 40 := by
  have := List.length_filter_le (fun p => ts.all fun t => Vbenag.isHole s (Vbenag.cardOf t) p) (List.range s.places)
  rw [List.length_range] at this
  exact Nat.le_trans this h.p40
theorem light_nil (s : Vbenag.State) : Vbenag.light s [] = List.range s.places := by
  unfold Vbenag.light
  exact List.filter_eq_self.mpr fun _ _ => rfl
def spShining (K : PySem.W.Frag) (C : Addr) : Sp := fun vs H Q _ => ∃ (a b : Addr) (y : Lay) (s : Vbenag.State) (ts : List Nat), vs = [.ref a, .ref b] ∧ FileAt C H a y s ∧ SqL K H b (ts.map nV) ∧ (∀ t ∈ ts, t < s.terms) ∧
  ∀ H' D, Same H H' → H D = none → H' D = some (.lst ((Vbenag.light s ts).map nV)) → Q (.ref D) H'
theorem sc_shining : FnScope ["card_file", "terms", "places", "term"] ["card_file", "terms"] (defScope s_shining_places) := ⟨rfl, rfl, rfl, by decide +kernel, rfl, by decide +kernel, by decide +kernel⟩
theorem ok_shining {f : Addr} {fd : FuncData} (F : Fun K "shining_places" "shining_places" s_shining_places f fd) (T : Txt K mg C tc pc)
    (MP : MOk P w K mg base C "places" 1 ["self"] (spCards C placesOf)) (GS : GOk P w K mg base "still_shining" 2 ["card_file", "places", "term"] (spStill K C)) : FnOk P w K mg base CX0 3 f fd ["card_file", "terms"] (spShining K C) := by
  refine F.ok sc_shining (fun vs H Q E h => ?_) (fun cdv A outer s H vs Q E hr h => ?_)
  · obtain ⟨a, b, y, s, ts, rfl, _⟩ := h
    rfl
  · obtain ⟨a, b, y, st, ts, rfl, hF, hb, ht, k⟩ := h
    have nd := sc_shining.nd
    have hr1 : Room 1 _ := hr.mono (by decide)
    refine ⟨_, pss_cons (ps_set (i := 2) nd rfl (Or.inl rfl) (pe_m0 MP T.cl hr1 (pv 0)))
      (pss_cons (ps_for PassesOwn.never rfl (pi_list (pv 1)) (pg_name (i := 3) nd rfl (Or.inl rfl))
        (pss_one (ps_set (i := 2) nd rfl (Or.inl rfl) (pe_g GS hr rfl (pa_cons (pv 0) (pa_cons (pv 2) (pa_cons (pv 3) pa_nil)))))))
      (pss_one (ps_ret (pv 2)))), ?_⟩
    refine ⟨_, rfl, a, _, _, rfl, hF.obj, rfl, a, y, st, rfl, hF, fun H1 D1 s1 n1 e1 => ?_⟩
    have e1 : H1 D1 = some (.lst ((Vbenag.light st (ts.take 0)).map nV)) := by rw [List.take_zero, light_nil]; exact e1
    refine ⟨_, rfl, b, rfl, ⟨_, s1.seq hb⟩, for_list (K := K) (a := b) (xs := ts.map nV) (fun i σ H' => ∃ (D : Addr) (v : Option V), σ = [some (.ref a), some (.ref b), some (.ref D), v] ∧ Same H H' ∧ H D = none ∧ H' D = some (.lst ((Vbenag.light st (ts.take i)).map nV)))
      ⟨D1, none, rfl, s1, n1, e1⟩ (fun i σ H' _ ⟨_, _, _, s2, _⟩ => s2.seq hb) ?_ ?_⟩
    · rintro i x σ H' hi ⟨D, v, rfl, sH, nD, eD⟩
      obtain ⟨t, htt, rfl⟩ := get_map hi
      have hFi := hF.same sH
      have hll := light_len hF.wf (ts.take i)
      refine ⟨_, rfl, _, rfl, _, rfl, a, D, y, st, Vbenag.light st (ts.take i), t, rfl, hFi, .inl (SqL.of eD), by omega, fun p hp => light_lt hp, ht t (List.mem_of_getElem? htt), fun H2 D2 s2 n2 e2 => ?_⟩
      refine ⟨D2, _, rfl, sH.trans s2, sH.free n2, ?_⟩
      rw [e2, take_succ_of htt, light_snoc]
    · rintro σ H' ⟨D, v, rfl, sH, nD, eD⟩
      rw [List.length_map, List.take_length] at eD
      exact ⟨_, rfl, k H' D sH nD eD⟩
def spLight (K : PySem.W.Frag) (C : Addr) : Sp := fun vs H Q _ => ∃ (a b : Addr) (y : Lay) (s : Vbenag.State) (ns : List Int), vs = [.ref a, .ref b] ∧ FileAt C H a y s ∧ SqL K H b (ns.map V.int) ∧ CallEnd C a y H Q (Vbenag.step s [[2], ns])
theorem sc_shine : FnScope ["card_file", "terms", "term"] ["card_file", "terms"] (defScope s_places_that_shine) := ⟨rfl, rfl, rfl, by decide +kernel, rfl, by decide +kernel, by decide +kernel⟩
theorem ok_shine {f : Addr} {fd : FuncData} (F : Fun K "places_that_shine" "places_that_shine" s_places_that_shine f fd) (T : Txt K mg C tc pc)
    (MA : MOk P w K mg base C "are_terms" 2 ["self", "numbers"] (spAreTerms K C)) (GO : GOk P w K mg base "card_of" 1 ["term"] spCardOf) (ML : MOk P w K mg base C "is_lost" 1 ["self", "card"] (spIsLost C))
    (GS : GOk P w K mg base "shining_places" 3 ["card_file", "terms"] (spShining K C)) (GN : GOk P w K mg base "counted" 1 ["numbers"] spCounted) : FnOk P w K mg base CX0 4 f fd ["card_file", "terms"] (spLight K C) := by
  refine F.ok sc_shine (fun vs H Q E h => ?_) (fun cdv A outer s H vs Q E hr h => ?_)
  · obtain ⟨a, b, y, s, ns, rfl, _⟩ := h
    rfl
  · obtain ⟨a, b, y, st, ns, rfl, hF, hb, k⟩ := h
    obtain ⟨_, g1⟩ := T.i1
    obtain ⟨_, g5⟩ := T.i5
    have nd := sc_shine.nd
    have hr1 : Room 1 _ := hr.mono (by decide)
    have hr2 : Room 2 _ := hr.mono (by decide)
    refine ⟨_, pss_cons (ps_if (pt_not (pt_val (pe_m MA T.cl hr2 (pv 0) (pa_cons (pv 1) pa_nil)))) (pss_one (ps_ret (pe_lst (pa_cons (pe_gint rfl g1) pa_nil)))) pss_nil)
      (pss_cons (ps_if (pt_val (pe_callB (cr_any rfl) (by rfl) T.any PyProof.Rows.boot_any (pa_cons (pe_lc (own := [("term", 2)]) rfl nd (pi_list (pv 1)) (blkOk_by rfl)
          (fun s H C cl fp => pg_name (i := 2) nd rfl (Or.inl rfl) (Or.inr rfl)) (fun s H C' cl fp => pts_nil) (fun s H C cl fp => pe_m ML T.cl hr1 (pv 0) (pa_cons (pe_g GO hr1 rfl (pa_cons (pv 2) pa_nil)) pa_nil))) pa_nil)))
        (pss_one (ps_ret (pe_lst (pa_cons (pe_gint rfl g5) pa_nil)))) pss_nil)
      (pss_one (ps_ret (pe_g GN hr1 rfl (pa_cons (pe_g GS hr rfl (pa_cons (pv 0) (pa_cons (pv 1) pa_nil))) pa_nil))))), ?_⟩
    rw [step_in (d := .light ns) rfl] at k
    have hin : Vbenag.inRange st (.light ns) = Vbenag.isTerms st ns := rfl
    rw [hin] at k
    refine ⟨_, rfl, a, _, _, rfl, hF.obj, rfl, _, rfl, a, b, y, st, ns, rfl, hF, hb, _, rfl, ?_⟩
    by_cases ht : Vbenag.isTerms st ns = true
    · rw [ht]
      rw [ht] at k
      obtain ⟨et, ti, tl⟩ := terms_nat ht
      replace k : CallEnd C a y H Q (if Vbenag.lacks st (ns.map Int.toNat) = true then Vbenag.no st 5 else (st, Vbenag.listRow (Vbenag.light st (ns.map Int.toNat)))) := k
      generalize ns.map Int.toNat = ts at et ti tl k
      rw [et] at hb
      have t11 : ∀ t ∈ ts, t < 11 := fun t h => Nat.lt_of_lt_of_le (tl t h) hF.wf.t11
      have hl11 := inc_len ti t11
      refine iteF (tNext_i (tIf_i (tB_i (tCB1_i ?_))))
      refine lcLv (K := K) (j := 1) ts nV (fun _ => true) (fun t => V.bl (st.lost.contains (Vbenag.cardOf t))) rfl hb ⟨by omega, fun c hc H2 R s2 q => q H2 (Same.refl _), fun t hc _ H2 R s2 q => ?_, fun D2 H2 n2 s2 e2 => ?_⟩
      · have hF2 := hF.same s2
        exact ⟨_, rfl, a, _, _, rfl, hF2.obj, rfl, _, rfl, t, rfl, t11 t hc, a, y, st, Vbenag.cardOf t, rfl, hF2, q H2 (Same.refl _)⟩
      · rw [filter_true, bl_map] at e2
        refine ⟨D2, _, rfl, SqL.of e2, _, rfl, ?_⟩
        rw [any_map_id]
        have el : (ts.any fun t => st.lost.contains (Vbenag.cardOf t)) = Vbenag.lacks st ts := rfl
        rw [el]
        by_cases hl : Vbenag.lacks st ts = true
        · rw [hl]
          rw [if_pos hl] at k
          exact iteT ⟨(by show 1 ≤ sizeLine; decide), fun p1 m1 => k.same hF (s2.trans (same_new m1)) (s2.free m1) upd_same⟩
        · rw [Bool.eq_false_iff.mpr hl]
          rw [if_neg hl] at k
          have hll := light_len hF.wf ts
          refine iteF ⟨_, rfl, _, rfl, a, b, y, st, ts, rfl, hF.same s2, s2.seq hb, tl, fun H3 D3 s3 n3 e3 => ?_⟩
          refine ⟨D3, _, rfl, e3, by rw [List.length_map]; omega, fun H4 D4 s4 n4 e4 => ?_⟩
          have s24 := s2.trans s3
          refine k.same hF (s24.trans s4) (s24.free n4) ?_
          rw [e4, List.length_map, listRow_V]
    · rw [Bool.eq_false_iff.mpr ht]
      rw [Bool.eq_false_iff.mpr ht] at k
      exact ⟨(by show 1 ≤ sizeLine; decide), fun p1 n1 => k.same hF (same_new n1) n1 upd_same⟩
end
end Hc
set_option Elab.async false
set_option linter.all false
set_option maxRecDepth 100000
set_option maxHeartbeats 4000000
namespace Hc
open PySem PySem.Spec PyProof.Rows L2
def foundAt (s : Vbenag.State) (ts : List Nat) (p : Nat) : Bool := match s.items.getD p none with
  | none => false
  | some l => ts.all fun t => l.contains t
theorem inV_nV (l : List Nat) (t : Nat) : inV (nV t) (l.map nV) = l.contains t := by
  have := inV_cards l ((t : Nat) : Int)
  rw [decide_eq_true (by omega), Bool.true_and] at this
  exact this
theorem range_get {n i p : Nat} (h : (List.range n)[i]? = some p) : i < n ∧ i = p := by
  have hl := (List.getElem?_eq_some_iff.mp h).1
  rw [List.length_range] at hl
  rw [List.getElem?_range hl] at h
  exact ⟨hl, Option.some.inj h⟩
section
variable {P : Program} {w : World} {K : PySem.W.Frag} {mg : Str → Option Value} {base : Heap} {C tc pc : Addr}
def spFound (K : PySem.W.Frag) (C : Addr) : Sp := fun vs H Q _ => ∃ (a b : Addr) (y : Lay) (s : Vbenag.State) (ns : List Int), vs = [.ref a, .ref b] ∧ FileAt C H a y s ∧ SqL K H b (ns.map V.int) ∧ CallEnd C a y H Q (Vbenag.step s [[3], ns])
theorem sc_found : FnScope ["card_file", "terms", "found", "place", "told", "term"] ["card_file", "terms"] (defScope s_places_found) := ⟨rfl, rfl, rfl, by decide +kernel, rfl, by decide +kernel, by decide +kernel⟩
theorem ok_found {f : Addr} {fd : FuncData} (F : Fun K "places_found" "places_found" s_places_found f fd) (T : Txt K mg C tc pc)
    (MA : MOk P w K mg base C "are_terms" 2 ["self", "numbers"] (spAreTerms K C)) (MP : MOk P w K mg base C "places" 1 ["self"] (spCards C placesOf)) (GN : GOk P w K mg base "counted" 1 ["numbers"] spCounted) : FnOk P w K mg base CX0 3 f fd ["card_file", "terms"] (spFound K C) := by
  refine F.ok sc_found (fun vs H Q E h => ?_) (fun cdv A outer s H vs Q E hr h => ?_)
  · obtain ⟨a, b, y, s, ns, rfl, _⟩ := h
    rfl
  · obtain ⟨a, b, y, st, ns, rfl, hF, hb, k⟩ := h
    obtain ⟨_, g1⟩ := T.i1
    have nd := sc_found.nd
    have hr1 : Room 1 _ := hr.mono (by decide)
    refine ⟨_, pss_cons (ps_if (pt_not (pt_val (pe_m MA T.cl hr (pv 0) (pa_cons (pv 1) pa_nil)))) (pss_one (ps_ret (pe_lst (pa_cons (pe_gint rfl g1) pa_nil)))) pss_nil)
      (pss_cons (ps_set (i := 2) nd rfl (Or.inl rfl) (pe_lst pa_nil))
      (pss_cons (ps_for PassesOwn.never rfl (pi_list (pe_m0 MP T.cl hr1 (pv 0))) (pg_name (i := 3) nd rfl (Or.inl rfl))
        (pss_cons (ps_set (i := 4) nd rfl (Or.inr rfl) (pe_ix ix_list (pe_fld (pv 0) rfl) (pv 3) (fun _ _ => rfl)))
        (pss_one (ps_if (PW.pt (pw_and (pt_cmpR op_notN (pv 4) pe_non (nomark _)) (pw_and1 (pt_val (pe_callB (cr_all rfl) (by rfl) T.all PyProof.Rows.boot_all (pa_cons (pe_lc (own := [("term", 5)]) rfl nd (pi_list (pv 1)) (blkOk_by rfl)
            (fun s H C cl fp => pg_name (i := 5) nd rfl (Or.inl rfl) (Or.inr rfl)) (fun s H C' cl fp => pts_nil) (fun s H C cl fp => pe_cmpR (r := rIn K false) op_in_seq (pv 5) (pv 4) (by with_unfolding_all rfl))) pa_nil))))))
          (pss_one (ps_expr (pe_bm PySem.F.plainAttrs_list PySem.F.slot_list_append PySem.F.type_list_append mt_append (pv 2) (pa_cons (pv 3) pa_nil)))) pss_nil))))
      (pss_one (ps_ret (pe_g GN hr1 rfl (pa_cons (pv 2) pa_nil)))))), ?_⟩
    rw [step_in (d := .found ns) rfl] at k
    have hin : Vbenag.inRange st (.found ns) = Vbenag.isTerms st ns := rfl
    rw [hin] at k
    refine ⟨_, rfl, a, _, _, rfl, hF.obj, rfl, _, rfl, a, b, y, st, ns, rfl, hF, hb, _, rfl, ?_⟩
    by_cases ht : Vbenag.isTerms st ns = true
    · rw [ht]
      rw [ht] at k
      obtain ⟨et, ti, tl⟩ := terms_nat ht
      replace k : CallEnd C a y H Q (st, Vbenag.listRow (Vbenag.found st (ns.map Int.toNat))) := k
      generalize ns.map Int.toNat = ts at et ti tl k
      rw [et] at hb
      have t11 : ∀ t ∈ ts, t < 11 := fun t h => Nat.lt_of_lt_of_le (tl t h) hF.wf.t11
      have hl11 := inc_len ti t11
      refine iteF ?_
      refine ⟨(by show 0 ≤ sizeLine; decide), fun S nS => ?_⟩
      have hFS := hF.same (same_new nS (o := .lst []))
      have p40 := hF.wf.p40
      refine ⟨_, rfl, a, _, _, rfl, hFS.obj, rfl, a, y, st, rfl, hFS, fun HP DP sP nP eP => ?_⟩
      have DPS : DP ≠ S := fun z => by rw [z, upd_same] at nP; cases nP
      refine ⟨DP, rfl, ⟨_, SqL.of eP⟩, for_list (K := K) (a := DP) (xs := (placesOf st).map nV) (fun i σ H' => ∃ v3 v4 : Option V, σ = [some (.ref a), some (.ref b), some (.ref S), v3, v4, none] ∧ Same H H' ∧ H' DP = some (.lst ((placesOf st).map nV)) ∧ H' S = some (.lst ((((List.range st.places).take i).filter (foundAt st ts)).map nV)))
        ⟨none, none, rfl, (same_new nS).trans sP, eP, sP _ _ upd_same⟩ (fun i σ H' _ ⟨_, _, _, _, e, _⟩ => SqL.of e) ?_ ?_⟩
      · rintro i x σ H' hix ⟨v3, v4, rfl, sH, eDP, eS⟩
        obtain ⟨pi, hpi, rfl⟩ := get_map hix
        obtain ⟨hi, rfl⟩ := range_get hpi
        have hFi := hF.same sH
        obtain ⟨o, c1, c2, c3⟩ := hFi.cellAt hi
        refine ⟨_, rfl, a, C, _, _, _, rfl, hFi.obj, T.cl, T.nI, rfl, _, rfl, y.hi, _, _, _, rfl, rfl, SqL.of hFi.items, atI_nat c2, ?_⟩
        refine ⟨_, rfl, rfl, _, rfl, ?_⟩
        rcases c3 with ⟨rfl, e0⟩ | ⟨b0, l0, rfl, e0, e1⟩
        · refine iteF (iteF ?_)
          have e : foundAt st ts i = false := by unfold foundAt; rw [e0]
          refine ⟨_, _, rfl, sH, eDP, ?_⟩
          rw [range_take_filter _ hi, e, if_neg Bool.false_ne_true, List.append_nil]
          exact eS
        · refine iteT (tB_i (tCB1_i ?_))
          refine lcLv (K := K) (j := 1) ts nV (fun _ => true) (fun t => V.bl (l0.contains t)) rfl (sH.seq hb) ⟨by omega, fun c hc H3 R s3 q => q H3 (Same.refl _), fun t hc _ H3 R s3 q => ?_, fun D3 H3 n3 s3 e3 => ?_⟩
          · refine ⟨_, rfl, _, rfl, b0, _, rfl, .inl (SqL.of (s3 _ _ e1)), rfl, flat_nV _, ?_⟩
            have q' : R (V.bl (l0.contains t)) H3 := q H3 (Same.refl _)
            rw [← inV_nV] at q'
            exact q'
          · rw [filter_true, bl_map] at e3
            refine ⟨D3, _, rfl, SqL.of e3, _, rfl, ?_⟩
            rw [all_map_id]
            have e : (ts.all fun t => l0.contains t) = foundAt st ts i := by unfold foundAt; rw [e0]
            rw [e]
            have eS3 := s3 _ _ eS
            refine ite2 (fun q => ?_) fun q => ?_
            · refine ⟨_, rfl, .inl ⟨rfl, _, SqL.of eS3⟩, _, rfl, S, _, _, rfl, rfl, eS3, ?_, ?_⟩
              · rw [List.length_map]
                exact small1000 (Nat.le_trans (range_take_len _) (by omega))
              · refine ⟨_, _, rfl, same_upd (sH.trans s3) nS, by rw [upd_ne DPS]; exact s3 _ _ eDP, ?_⟩
                rw [upd_same, range_take_filter _ hi, if_pos q, List.map_append]
                rfl
            · refine ⟨_, _, rfl, sH.trans s3, s3 _ _ eDP, ?_⟩
              rw [range_take_filter _ hi, if_neg q, List.append_nil]
              exact eS3
      · rintro σ H' ⟨v3, v4, rfl, sH, eDP, eS⟩
        have hlen : ((placesOf st).map nV).length = st.places := by rw [List.length_map]; exact List.length_range
        rw [hlen] at eS
        rw [List.take_of_length_le (by rw [List.length_range]; exact Nat.le_refl _)] at eS
        refine ⟨_, rfl, S, _, rfl, eS, by rw [List.length_map]; have := List.length_filter_le (foundAt st ts) (List.range st.places); rw [List.length_range] at this; omega, fun H4 D4 s4 n4 e4 => ?_⟩
        refine k.same hF (sH.trans s4) (sH.free n4) ?_
        rw [e4, List.length_map]
        show _ = some (HO.lst ((Vbenag.listRow (Vbenag.found st ts)).map V.int))
        rw [listRow_V]
        rfl
    · rw [Bool.eq_false_iff.mpr ht]
      rw [Bool.eq_false_iff.mpr ht] at k
      exact ⟨(by show 1 ≤ sizeLine; decide), fun p1 n1 => k.same hF (same_new n1) n1 upd_same⟩
end
end Hc
set_option Elab.async false
set_option linter.all false
set_option maxRecDepth 100000
set_option maxHeartbeats 4000000
namespace Hc
open PySem PySem.Spec PyProof.Rows L2
section
variable {α : Type} {K : PySem.W.Frag} {i : Nat} {te : TE} {σ : L2.St} {Q : VK}
def Each (El : α → V → Hp → Prop) (l : List α) (ys : List V) (H : Hp) : Prop := ys.length = l.length ∧ ∀ (j : Nat) (x : α) (v : V), l[j]? = some x → ys[j]? = some v → El x v H
theorem Each.mono {El : α → V → Hp → Prop} (hm : ∀ x v H H', Same H H' → El x v H → El x v H') {l : List α} {ys : List V} {H H' : Hp} (h : Each El l ys H) (s : Same H H') : Each El l ys H' :=
  ⟨h.1, fun j x v h1 h2 => hm x v H H' s (h.2 j x v h1 h2)⟩
theorem Each.nil {El : α → V → Hp → Prop} {H : Hp} : Each El [] [] H := ⟨rfl, fun j x v h => by simp at h⟩
theorem Each.snoc {El : α → V → Hp → Prop} {l : List α} {ys : List V} {H : Hp} {x : α} {v : V} (h : Each El l ys H) (e : El x v H) : Each El (l ++ [x]) (ys ++ [v]) H := by
  refine ⟨by rw [List.length_append, List.length_append, h.1]; rfl, fun j z u h1 h2 => ?_⟩
  by_cases hj : j < l.length
  · rw [List.getElem?_append_left hj] at h1
    rw [List.getElem?_append_left (by rw [h.1]; exact hj)] at h2
    exact h.2 j z u h1 h2
  · have hj2 : j = l.length := by
      have := (List.getElem?_eq_some_iff.mp h1).1
      rw [List.length_append] at this
      simp at this
      omega
    subst hj2
    rw [List.getElem?_append_right (Nat.le_refl _), Nat.sub_self] at h1
    rw [← h.1, List.getElem?_append_right (Nat.le_refl _), Nat.sub_self] at h2
    cases h1
    cases h2
    exact e
theorem Each.append {El : α → V → Hp → Prop} {l m : List α} {ys zs : List V} {H : Hp} (h : Each El l ys H) (h' : Each El m zs H) : Each El (l ++ m) (ys ++ zs) H := by
  refine ⟨by rw [List.length_append, List.length_append, h.1, h'.1], fun j z u h1 h2 => ?_⟩
  by_cases hj : j < l.length
  · rw [List.getElem?_append_left hj] at h1
    rw [List.getElem?_append_left (by rw [h.1]; exact hj)] at h2
    exact h.2 j z u h1 h2
  · rw [List.getElem?_append_right (by omega)] at h1
    rw [List.getElem?_append_right (by rw [h.1]; omega), h.1] at h2
    exact h'.2 _ z u h1 h2
theorem lcG (El : Addr → α → V → Hp → Prop) (hm : ∀ D x v H H', (∀ b o, H b = some o → b ≠ D → H' b = some o) → El D x v H → El D x v H') (l : List α) (g : α → V) {a : Addr} {H1 : Hp} (hq : SqL K H1 a (l.map g)) (hl : l.length < 1000)
    (he : ∀ D, H1 D = none → ∀ x ∈ l, ∀ H2 R ys, Same H1 H2 → H2 D = some (.lst ys) → (∀ v H3, Same H2 H3 → El D x v H3 → R v H3) → te ((wipe σ [i]).set i (some (g x))) H2 R)
    (hd : ∀ D H2 ys, H1 D = none → Same H1 H2 → H2 D = some (.lst ys) → Each (El D) l ys H2 → Q (.ref D) H2) : tLc (iList K (tC (.ref a))) (gName i) tYes te [i] σ H1 Q := by
  refine ⟨a, rfl, ⟨_, hq⟩, fun D hD => ?_⟩
  refine lc_list (K := K) (a := a) (xs := l.map g) (Qd := fun H => Q (.ref D) H) (fun k H' => Same H1 H' ∧ ∃ ys, H' D = some (.lst ys) ∧ Each (El D) (l.take k) ys H') ⟨same_new hD, [], upd_same, Each.nil⟩ (fun k H' _ hP => hP.1.seq hq) (fun k y H' hy hP => ?_) fun H' hP => ?_
  · obtain ⟨x, hx, rfl⟩ := get_map hy
    obtain ⟨s1, ys, e1, ea⟩ := hP
    refine ⟨wipe_back, ?_⟩
    unfold tYes
    dsimp only
    rw [if_pos rfl]
    refine he D hD x (List.mem_of_getElem? hx) H' _ ys s1 e1 fun v H3 s3 ev => ⟨ys, s3 _ _ e1, ?_, same_upd (s1.trans s3) hD, _, upd_same, ?_⟩
    · rw [ea.1, List.length_take]
      exact small1000 (by omega)
    · rw [take_succ_of hx]
      have st : ∀ b o, H3 b = some o → b ≠ D → upd H3 D (.lst (ys ++ [v])) b = some o := fun b o e n => by rw [upd_ne n]; exact e
      have h3 : Each (El D) (l.take k) ys (upd H3 D (.lst (ys ++ [v]))) := ⟨ea.1, fun j z u h1 h2 => hm D z u H' _ (fun b o e n => st b o (s3 b o e) n) (ea.2 j z u h1 h2)⟩
      exact h3.snoc (hm D x v H3 _ st ev)
  · obtain ⟨s1, ys, e1, ea⟩ := hP
    rw [List.length_map, List.take_length] at ea
    exact hd D H' ys hD s1 e1 ea
theorem lcGv {j : Nat} (El : Addr → α → V → Hp → Prop) (hm : ∀ D x v H H', (∀ b o, H b = some o → b ≠ D → H' b = some o) → El D x v H → El D x v H') (l : List α) (g : α → V) {a : Addr} {H1 : Hp} (hv : σ[j]? = some (some (.ref a))) (hq : SqL K H1 a (l.map g)) (hl : l.length < 1000)
    (he : ∀ D, H1 D = none → ∀ x ∈ l, ∀ H2 R ys, Same H1 H2 → H2 D = some (.lst ys) → (∀ v H3, Same H2 H3 → El D x v H3 → R v H3) → te ((wipe σ [i]).set i (some (g x))) H2 R)
    (hd : ∀ D H2 ys, H1 D = none → Same H1 H2 → H2 D = some (.lst ys) → Each (El D) l ys H2 → Q (.ref D) H2) : tLc (iList K (tVar j)) (gName i) tYes te [i] σ H1 Q := ⟨_, hv, lcG El hm l g hq hl he hd⟩
end
theorem xor_nat (m c : Nat) : Builtin.bitXor ((m : Nat) : Int) (16 + ((c : Nat) : Int)) = ((m ^^^ (16 + c) : Nat) : Int) := by
  rw [Bits.bitXor_pp (by omega) (by omega)]
  congr 1
section
variable {P : Program} {w : World} {K : PySem.W.Frag} {mg : Str → Option Value} {base : Heap} {C tc pc : Addr}
def spMark (K : PySem.W.Frag) : Sp := fun vs H Q _ => ∃ (b : Addr) (l : List Nat), vs = [.ref b] ∧ SqL K H b (l.map nV) ∧ Q (nV (mk l)) H
theorem sc_mark_of : FnScope ["cards", "mark", "card"] ["cards"] (defScope s_mark_of) := ⟨rfl, rfl, rfl, by decide +kernel, rfl, by decide +kernel, by decide +kernel⟩
theorem ok_mark_of {f : Addr} {fd : FuncData} (F : Fun K "mark_of" "mark_of" s_mark_of f fd) (T : Txt K mg C tc pc) : FnOk P w K mg base CX0 1 f fd ["cards"] (spMark K) := by
  refine F.ok sc_mark_of (fun vs H Q E h => ?_) (fun cdv A outer s H vs Q E hr h => ?_)
  · obtain ⟨b, l, rfl, _⟩ := h
    rfl
  · obtain ⟨b, l, rfl, hb, k⟩ := h
    have nd := sc_mark_of.nd
    refine ⟨_, pss_cons (ps_set (i := 1) nd rfl (Or.inl rfl) pe_int)
      (pss_cons (ps_for PassesOwn.never rfl (pi_list (pv 0)) (pg_name (i := 2) nd rfl (Or.inl rfl)) (pss_one (ps_set (i := 1) nd rfl (Or.inl rfl) (pe_op op_xor (pv 1) (pe_op op_add pe_int (pv 2))))))
      (pss_one (ps_ret (pv 1)))), ?_⟩
    refine ⟨_, rfl, b, rfl, ⟨_, hb⟩, for_list (K := K) (a := b) (xs := l.map nV) (fun i σ H' => ∃ v : Option V, σ = [some (.ref b), some (nV (mk (l.take i))), v] ∧ H' = H)
      ⟨none, rfl, rfl⟩ (fun i σ H' _ ⟨_, _, e⟩ => by rw [e]; exact hb) ?_ ?_⟩
    · rintro i x σ H' hi ⟨v, rfl, rfl⟩
      obtain ⟨c, hc, rfl⟩ := get_map hi
      refine ⟨_, rfl, _, rfl, _, _, rfl, rfl, _, _, rfl, rfl, some (nV c), ?_, rfl⟩
      rw [take_succ_of hc, mk_snoc]
      show _ = [some (V.ref b), some (V.int _), some (nV c)]
      rw [← xor_nat]
      rfl
    · rintro σ H' ⟨v, rfl, rfl⟩
      rw [List.length_map, List.take_length]
      exact ⟨_, rfl, k⟩
end
end Hc
set_option Elab.async false
set_option linter.all false
set_option maxRecDepth 100000
set_option maxHeartbeats 4000000
namespace Hc
open PySem PySem.Spec PyProof.Rows L2
theorem each_refs {α : Type} {Pr : α → Addr → Prop} {H : Hp} : ∀ {l : List α} {ys : List V}, Each (fun x v _ => ∃ t, v = .ref t ∧ Pr x t) l ys H → ∃ xs : List (Addr × α), xs.map (·.2) = l ∧ ys = xs.map (fun z => V.ref z.1) ∧ ∀ z ∈ xs, Pr z.2 z.1
  | [], [], _ => ⟨[], rfl, rfl, fun _ h => nomatch h⟩
  | [], _ :: _, h => by have := h.1; simp at this
  | _ :: _, [], h => by have := h.1; simp at this
  | x :: l, v :: ys, h => by
    obtain ⟨t, rfl, ht⟩ := h.2 0 x v rfl rfl
    obtain ⟨xs, h1, h2, h3⟩ := each_refs (Pr := Pr) (H := H) (l := l) (ys := ys) ⟨by have := h.1; simp at this; exact this, fun j z u a b => h.2 (j + 1) z u a b⟩
    refine ⟨(t, x) :: xs, by rw [List.map_cons, h1], by rw [List.map_cons, h2], fun z hz => ?_⟩
    rcases List.mem_cons.mp hz with e | hz
    · rw [e]; exact ht
    · exact h3 z hz
abbrev Prs := List (Addr × List Nat)
def refsOf (ps : Prs) : List V := ps.map fun x => V.ref x.1
def grp (ps : Prs) (m : Nat) : Prs := ps.filter fun x => mk x.2 == m
def ListsAt (H : Hp) (ps : Prs) : Prop := ∀ x ∈ ps, H x.1 = some (.lst (x.2.map nV))
theorem ListsAt.same {H H' : Hp} {ps : Prs} (h : ListsAt H ps) (s : Same H H') : ListsAt H' ps := fun x hx => s _ _ (h x hx)
structure BM (H0 H : Hp) (kvs : List (Key × V)) (ps : Prs) : Prop where
  at_ : ∀ m : Nat, (valV kvs (keyN m) = none ∧ grp ps m = []) ∨ ∃ g, valV kvs (keyN m) = some (.ref g) ∧ H g = some (.lst (refsOf (grp ps m))) ∧ H0 g = none
  inj : ∀ (m m' : Nat) (g : Addr), valV kvs (keyN m) = some (.ref g) → valV kvs (keyN m') = some (.ref g) → m = m'
theorem grp_snoc (ps : Prs) (x : Addr × List Nat) (m : Nat) : grp (ps ++ [x]) m = grp ps m ++ (if mk x.2 = m then [x] else []) := by
  unfold grp
  rw [List.filter_append, List.filter_cons, List.filter_nil]
  by_cases e : mk x.2 = m
  · rw [if_pos (beq_iff_eq.mpr e), if_pos e]
  · rw [if_neg (fun z => e (beq_iff_eq.mp z)), if_neg e]
section
variable {P : Program} {w : World} {K : PySem.W.Frag} {mg : Str → Option Value} {base : Heap} {C tc pc : Addr}
def spFillings (K : PySem.W.Frag) : Sp := fun vs H Q _ => ∃ (b : Addr) (l : List Nat), vs = [.ref b] ∧ SqL K H b (l.map nV) ∧ l.Nodup ∧ l.length ≤ 4 ∧
  ∀ H' d ps kvs H0, Same H H' → H d = none → ps.map (·.2) = fills l → ListsAt H' ps → H' d = some (.dK kvs) → BM H0 H' kvs ps → Q (.ref d) H'
theorem sc_fillings : FnScope ["lost_cards", "fillings", "by_mark", "card", "filling"] ["lost_cards"] (defScope s_fillings_by_mark) := ⟨rfl, rfl, rfl, by decide +kernel, rfl, by decide +kernel, by decide +kernel⟩
theorem fills_take_len {l : List Nat} (hn : l.Nodup) (h4 : l.length ≤ 4) (i : Nat) : (fills (l.take i)).length ≤ 16 := by
  rw [len_fills (List.Pairwise.sublist (List.take_sublist i l) hn), List.length_take]
  have : min i l.length ≤ 4 := by omega
  exact Nat.le_trans (Nat.pow_le_pow_right (by decide) this) (by decide)
theorem ok_fillings {f : Addr} {fd : FuncData} (F : Fun K "fillings_by_mark" "fillings_by_mark" s_fillings_by_mark f fd) (T : Txt K mg C tc pc)
    (GM : GOk P w K mg base "mark_of" 1 ["cards"] (spMark K)) : FnOk P w K mg base CX0 2 f fd ["lost_cards"] (spFillings K) := by
  refine F.ok sc_fillings (fun vs H Q E h => ?_) (fun cdv A outer s H vs Q E hr h => ?_)
  · obtain ⟨b, l, rfl, _⟩ := h
    rfl
  · obtain ⟨b, l, rfl, hb, hn, h4, k⟩ := h
    have nd := sc_fillings.nd
    refine ⟨_, pss_cons (ps_set (i := 1) nd rfl (Or.inl rfl) (pe_lst (pa_cons (pe_lst pa_nil) pa_nil)))
      (pss_cons (ps_for PassesOwn.never rfl (pi_list (pv 0)) (pg_name (i := 3) nd rfl (Or.inr rfl))
        (pss_one (ps_set (i := 1) nd rfl (Or.inl rfl) (pe_op op_cat (pv 1) (pe_lc (own := [("filling", 4)]) rfl nd (pi_list (pv 1)) (blkOk_by rfl)
          (fun s H C cl fp => pg_name (i := 4) nd rfl (Or.inl rfl) (Or.inr rfl)) (fun s H C' cl fp => pts_nil) (fun s H C cl fp => pe_op op_cat (pv 4) (pe_lst (pa_cons (pv 3) pa_nil))))))))
      (pss_cons (ps_set (i := 2) nd rfl (Or.inl rfl) pe_dnewK)
      (pss_cons (ps_for PassesOwn.never rfl (pi_list (pv 1)) (pg_name (i := 4) nd rfl (Or.inl rfl))
        (pss_one (ps_expr (pe_bm PySem.F.plainAttrs_list PySem.F.slot_list_append PySem.F.type_list_append mt_append
          (pe_bm PySem.F.plainAttrs_dict PySem.F.slot_dict_setdefault PySem.F.type_dict_setdefault mt_setdefault (pv 2) (pa_cons (pe_g GM hr rfl (pa_cons (pv 4) pa_nil)) (pa_cons (pe_lst pa_nil) pa_nil))) (pa_cons (pv 4) pa_nil)))))
      (pss_one (ps_ret (pv 2)))))), ?_⟩
    refine ⟨(by show 0 ≤ sizeLine; decide), fun p1 n1 => ?_⟩
    refine ⟨(by show 1 ≤ sizeLine; decide), fun p2 n2 => ?_⟩
    have s0 : Same H (upd (upd H p1 (.lst [])) p2 (.lst [.ref p1])) := (same_new n1).trans (same_new n2)
    have ep1 : upd (upd H p1 (.lst [])) p2 (.lst [.ref p1]) p1 = some (.lst []) := same_new n2 _ _ upd_same
    have ep2 : upd (upd H p1 (.lst [])) p2 (.lst [.ref p1]) p2 = some (.lst [.ref p1]) := upd_same
    generalize upd (upd H p1 (.lst [])) p2 (.lst [.ref p1]) = H1 at s0 ep1 ep2 ⊢
    refine ⟨_, rfl, b, rfl, ⟨_, s0.seq hb⟩, for_list (K := K) (a := b) (xs := l.map nV) (fun i σ H' => ∃ (v3 : Option V) (D : Addr) (ps : Prs), σ = [some (.ref b), some (.ref D), none, v3, none] ∧ Same H H' ∧ H' D = some (.lst (refsOf ps)) ∧ ps.map (·.2) = fills (l.take i) ∧ ListsAt H' ps)
      ⟨none, p2, [(p1, [])], rfl, s0, ep2, rfl, fun x hx => by rw [List.mem_singleton.mp hx]; exact ep1⟩ (fun i σ H' _ ⟨_, _, _, _, sH, _⟩ => sH.seq hb) ?_ ?_⟩
    · rintro i x σ H' hi ⟨v3, D, ps, rfl, sH, eD, ef, hps⟩
      obtain ⟨c, hc, rfl⟩ := get_map hi
      have hpl : ps.length ≤ 16 := by
        have := fills_take_len hn h4 i
        rw [← ef, List.length_map] at this
        exact this
      refine tAsg_i (tOp_i (tVar_i rfl ?_))
      have hfl : ∀ x ∈ ps, x.2.length ≤ 4 := fun x hx => by
        have : x.2 ∈ fills (l.take i) := by rw [← ef]; exact List.mem_map.mpr ⟨x, hx, rfl⟩
        have q := ((mem_fills (List.Pairwise.sublist (List.take_sublist i l) hn) _).mp this).length_le
        rw [List.length_take] at q
        omega
      refine lcGv (K := K) (j := 1) (fun D x v H => ∃ t, v = .ref t ∧ (t ≠ D ∧ H t = some (.lst ((x.2 ++ [c]).map nV)))) (fun D x v H H' h => by
          rintro ⟨t, e, n, h1⟩
          exact ⟨t, e, n, h _ _ h1 n⟩) ps (fun x => V.ref x.1) rfl (SqL.of eD) (by omega) (fun D2 nD2 x hx H2 R ys s2 eD2 q => ?_) fun D2 H2 ys nD2 s2 eD2 ea => ?_
      · refine ⟨_, rfl, _, rfl, (by show 1 ≤ sizeLine; decide), fun q1 m1 => ?_⟩
        refine ⟨x.1, q1, _, _, rfl, rfl, same_new m1 _ _ (s2 _ _ (hps x hx)), upd_same, ?_, fun q2 m2 => ?_⟩
        · have := hfl x hx
          rw [List.length_map, sizeLine_eq]
          show _ + 1 ≤ _
          omega
        · refine q _ _ ((same_new m1).trans (same_new m2)) ⟨q2, rfl, fun z => ?_, ?_⟩
          · rw [z, same_new m1 (o := .lst [nV c]) _ _ eD2] at m2
            cases m2
          · rw [upd_same, List.map_append]
            rfl
      · obtain ⟨xs, x1, x2, x3⟩ := each_refs (Pr := fun x t => t ≠ D2 ∧ H2 t = some (.lst ((x.2 ++ [c]).map nV))) (H := H2) (l := ps) (ys := ys) ⟨ea.1, ea.2⟩
        subst x2
        have hxl : xs.length = ps.length := by rw [← x1, List.length_map]
        refine ⟨D, D2, _, _, rfl, rfl, s2 _ _ eD, eD2, ?_, fun D3 nD3 => ?_⟩
        · unfold refsOf
          rw [List.length_map, List.length_map, hxl, sizeLine_eq]
          omega
        · have s3 := s2.trans (same_new nD3 (o := .lst (refsOf ps ++ xs.map fun z => V.ref z.1)))
          refine ⟨_, D3, ps ++ xs.map (fun z => (z.1, z.2.2 ++ [c])), rfl, sH.trans s3, ?_, ?_, fun x hx => ?_⟩
          · rw [upd_same]
            unfold refsOf
            rw [List.map_append, List.map_map]
            rfl
          · rw [take_succ_of hc, fills_snoc, List.map_append, ← ef, List.map_map, List.map_map, ← x1, List.map_map, List.map_map]
            rfl
          · rcases List.mem_append.mp hx with hx | hx
            · exact s3 _ _ (hps x hx)
            · obtain ⟨z, hz, rfl⟩ := List.mem_map.mp hx
              exact same_new nD3 _ _ (x3 z hz).2
    · rintro σ H' ⟨v3, DF, ps, rfl, sH, eDF, ef, hps⟩
      rw [List.length_map, List.take_length] at ef
      have hpl : ps.length ≤ 16 := by
        have := fills_take_len hn h4 l.length
        rw [List.take_length, ← ef, List.length_map] at this
        exact this
      intro d nd'
      have hDd : DF ≠ d := ne_of_none eDF nd'
      refine ⟨_, rfl, DF, rfl, ⟨_, SqL.of (same_new nd' _ _ eDF)⟩, for_list (K := K) (a := DF) (xs := refsOf ps) (fun i σ H2 => ∃ (v4 : Option V) (kvs : List (Key × V)), σ = [some (.ref b), some (.ref DF), some (.ref d), v3, v4] ∧ Same H' H2 ∧ H2 d = some (.dK kvs) ∧ kvs.length ≤ i ∧ BM H' H2 kvs (ps.take i))
        ⟨none, [], rfl, same_new nd', upd_same, Nat.le_refl _, ⟨fun m => .inl ⟨rfl, rfl⟩, fun m m' g h => nomatch h⟩⟩ (fun i σ H2 _ ⟨_, _, _, s2, _⟩ => SqL.of (s2 _ _ eDF)) ?_ ?_⟩
      · rintro i x σ H2 hi ⟨v4, kvs, rfl, s2, ed, hkl, B⟩
        obtain ⟨x, hx, rfl⟩ := get_map (l := ps) (g := fun x => V.ref x.1) hi
        have mx := List.mem_of_getElem? hx
        have hil : i < ps.length := (List.getElem?_eq_some_iff.mp hx).1
        have ex := s2 _ _ (hps x mx)
        refine ⟨_, rfl, .inr (.inr (.inl ⟨rfl, .inl ⟨_, ed⟩⟩)), _, rfl, x.1, x.2, rfl, SqL.of ex, (by show 0 ≤ sizeLine; decide), fun p np => ?_⟩
        have s3 : Same H2 (upd H2 p (.lst [])) := same_new np
        refine ⟨d, kvs, keyN (mk x.2), .ref p, rfl, rfl, s3 _ _ ed, small1000 (by omega), fun v hv => ?_, fun hv => ?_⟩
        · rcases B.at_ (mk x.2) with ⟨q, _⟩ | ⟨g, q, eg, ng⟩
          · rw [q] at hv; cases hv
          · rw [q] at hv
            cases hv
            refine ⟨.inl ⟨rfl, _, SqL.of (s3 _ _ eg)⟩, _, rfl, g, _, _, rfl, rfl, s3 _ _ eg, ?_, ?_⟩
            · unfold refsOf grp
              rw [List.length_map]
              exact small1000 (Nat.le_trans (len_filt_take ps _ i) (by omega))
            · have gd : d ≠ g := ne_of ed eg (by intro z; cases z)
              refine ⟨some (.ref x.1), kvs, rfl, fun c o e => ?_, by rw [upd_ne gd]; exact s3 _ _ ed, by omega, ⟨fun m => ?_, B.inj⟩⟩
              · have cg : c ≠ g := fun z => by rw [z, ng] at e; cases e
                rw [upd_ne cg]
                exact s3 _ _ (s2 _ _ e)
              · rw [take_succ_of hx, grp_snoc]
                by_cases em : mk x.2 = m
                · subst em
                  rw [if_pos rfl]
                  refine .inr ⟨g, q, ?_, ng⟩
                  rw [upd_same]
                  unfold refsOf
                  rw [List.map_append]
                  rfl
                · rw [if_neg em, List.append_nil]
                  rcases B.at_ m with z | ⟨g', q', eg', ng'⟩
                  · exact .inl z
                  · have gg : g' ≠ g := fun z => em (B.inj (mk x.2) m g q (by rw [← z]; exact q'))
                    exact .inr ⟨g', q', by rw [upd_ne gg]; exact s3 _ _ eg', ng'⟩
        · have hgn : grp (ps.take i) (mk x.2) = [] := by
            rcases B.at_ (mk x.2) with ⟨_, z⟩ | ⟨g, q, _⟩
            · exact z
            · rw [hv] at q; cases q
          have pd : p ≠ d := fun z => by rw [z, ed] at np; cases np
          have ep : upd (upd H2 p (.lst [])) d (.dK (putK kvs (keyN (mk x.2)) (.ref p))) p = some (.lst []) := by rw [upd_ne pd]; exact upd_same
          refine ⟨.inl ⟨rfl, _, SqL.of ep⟩, _, rfl, p, _, _, rfl, rfl, ep, (by show 0 < sizeLine; decide), ?_⟩
          have keyne : ∀ m, ¬ mk x.2 = m → ¬ keyN m = keyN (mk x.2) := fun m h z => h (keyN_inj z).symm
          have np' : H' p = none := s2.free np
          refine ⟨some (.ref x.1), putK kvs (keyN (mk x.2)) (.ref p), rfl, fun c o e => ?_, by rw [upd_ne pd.symm]; exact upd_same, Nat.le_trans (length_putK _ _ _) (by omega), ⟨fun m => ?_, fun m m' g h1 h2 => ?_⟩⟩
          · have cp : c ≠ p := ne_of_none e np'
            have cd : c ≠ d := fun z => by rw [z, nd'] at e; cases e
            rw [upd_ne cp, upd_ne cd]
            exact s3 _ _ (s2 _ _ e)
          · rw [take_succ_of hx, grp_snoc, valV_put]
            by_cases em : mk x.2 = m
            · subst em
              rw [if_pos rfl, if_pos rfl, hgn]
              exact .inr ⟨p, rfl, upd_same, np'⟩
            · rw [if_neg em, List.append_nil, if_neg (keyne m em)]
              rcases B.at_ m with z | ⟨g', q', eg', ng'⟩
              · exact .inl z
              · have gp : g' ≠ p := ne_of_none eg' np
                have gd : g' ≠ d := ne_of eg' ed (by intro z; cases z)
                exact .inr ⟨g', q', by rw [upd_ne gp, upd_ne gd]; exact s3 _ _ eg', ng'⟩
          · rw [valV_put] at h1 h2
            have notp : ∀ m', valV kvs (keyN m') = some (.ref p) → False := fun m' h => by
              rcases B.at_ m' with ⟨z, _⟩ | ⟨g', q', eg', _⟩
              · rw [z] at h; cases h
              · rw [q'] at h
                cases h
                rw [np] at eg'
                cases eg'
            by_cases e1 : mk x.2 = m
            · by_cases e2 : mk x.2 = m'
              · exact e1.symm.trans e2
              · rw [if_pos (by rw [e1])] at h1
                cases h1
                rw [if_neg (keyne m' e2)] at h2
                exact (notp m' h2).elim
            · by_cases e2 : mk x.2 = m'
              · rw [if_pos (by rw [e2])] at h2
                cases h2
                rw [if_neg (keyne m e1)] at h1
                exact (notp m h1).elim
              · rw [if_neg (keyne m e1)] at h1
                rw [if_neg (keyne m' e2)] at h2
                exact B.inj m m' g h1 h2
      · rintro σ H2 ⟨v4, kvs, rfl, s2, ed, hkl, B⟩
        rw [show (refsOf ps).length = ps.length from List.length_map .., List.take_length] at B
        exact ⟨_, rfl, k H2 d ps kvs H' (sH.trans s2) (sH.free nd') ef (hps.same s2) ed B⟩
end
end Hc
set_option Elab.async false
set_option linter.all false
set_option maxRecDepth 100000
set_option maxHeartbeats 4000000
namespace Hc
open PySem PySem.Spec PyProof.Rows L2
def optV : Option Nat → V
  | none => .non
  | some c => nV c
abbrev Way := Option Nat × (Addr × List Nat)
def ElW (x : Way) (v : V) (H : Hp) : Prop := ∃ t, v = .ref t ∧ H t = some (.tup [optV x.1, .ref x.2.1])
theorem ElW.mono (x : Way) (v : V) (H H' : Hp) (s : Same H H') (h : ElW x v H) : ElW x v H' := by
  obtain ⟨t, e, q⟩ := h
  exact ⟨t, e, s _ _ q⟩
theorem ElW.upd {x : Way} {v : V} {H : Hp} {D : Addr} {xs : List V} {o : HO} (h : ElW x v H) (hD : H D = some (.lst xs)) : ElW x v (L2.upd H D o) := by
  obtain ⟨t, e, q⟩ := h
  exact ⟨t, e, by rw [upd_ne (ne_of q hD (by intro z; cases z))]; exact q⟩
def wN (ps : Prs) (m : Nat) : List Way := (grp ps m).map fun x => (none, x)
def wC (ps : Prs) (m c : Nat) : List Way := (grp ps (m ^^^ (16 + c))).map fun x => (some c, x)
def waysOf (ks : List Nat) (ps : Prs) (m : Nat) : List Way := if (wN ps m).isEmpty = true then ks.flatMap (wC ps m) else wN ps m
theorem grp_len (ps : Prs) (m : Nat) : (grp ps m).length ≤ ps.length := List.length_filter_le _ _
theorem Each.map {α β : Type} {El : α → V → Hp → Prop} {El' : β → V → Hp → Prop} {l : List α} {ys : List V} {H : Hp} (f : α → β) (h : Each El l ys H) (hh : ∀ x v, El x v H → El' (f x) v H) : Each El' (l.map f) ys H := by
  refine ⟨by rw [List.length_map]; exact h.1, fun j x v h1 h2 => ?_⟩
  obtain ⟨z, hz, rfl⟩ := get_map h1
  exact hh z v (h.2 j z v hz h2)
theorem Each.imp {α : Type} {El El' : α → V → Hp → Prop} {l : List α} {ys : List V} {H H' : Hp} (h : Each El l ys H) (hh : ∀ x v, El x v H → El' x v H') : Each El' l ys H' := ⟨h.1, fun j x v h1 h2 => hh x v (h.2 j x v h1 h2)⟩
theorem BM.same {H0 H H' : Hp} {kvs : List (Key × V)} {ps : Prs} (h : BM H0 H kvs ps) (s : Same H H') : BM H0 H' kvs ps :=
  ⟨fun m => (h.at_ m).elim .inl fun ⟨g, a, b, c⟩ => .inr ⟨g, a, s _ _ b, c⟩, h.inj⟩
section
variable {P : Program} {w : World} {K : PySem.W.Frag} {mg : Str → Option Value} {base : Heap} {C tc pc : Addr}
theorem get_fill {σ : L2.St} {H0 H : Hp} {jd : Nat} {tk : TE} {d : Addr} {kvs : List (Key × V)} {ps : Prs} {m : Nat} {Q : VK} (hd : σ[jd]? = some (some (.ref d))) (ed : H d = some (.dK kvs)) (B : BM H0 H kvs ps)
    (ht : ∀ R : VK, R (nV m) H → tk σ H R) (h : ∀ a H2, Same H H2 → H2 a = some (.lst (refsOf (grp ps m))) → Q (.ref a) H2) : tDGet2 (tVar jd) tk (tLst tNil) σ H Q := by
  refine ⟨_, hd, d, rfl, .inl ⟨_, .inl ed⟩, ht _ ?_⟩
  refine ⟨(by show 0 ≤ sizeLine; decide), fun p np => ?_⟩
  have s : Same H (upd H p (.lst [])) := same_new np
  refine ⟨_, DGet.k (k := keyN m) (s _ _ ed), ?_⟩
  rcases B.at_ m with ⟨e, g⟩ | ⟨a, e, ea, _⟩
  · rw [e]
    refine h p _ s ?_
    rw [g]
    exact upd_same
  · rw [e]
    exact h a _ s (s _ _ ea)
theorem lc_ways {σ : L2.St} {H1 : Hp} {i : Nat} {te : TE} {a : Addr} {ps : Prs} {o : Option Nat} {Q : VK} (hq : H1 a = some (.lst (refsOf ps))) (hl : ps.length < 1000)
    (he : ∀ x ∈ ps, ∀ H2 R, Same H1 H2 → (∀ t, H2 t = none → R (.ref t) (upd H2 t (.tup [optV o, .ref x.1]))) → te ((wipe σ [i]).set i (some (.ref x.1))) H2 R)
    (hd : ∀ D H2 ys, H1 D = none → Same H1 H2 → H2 D = some (.lst ys) → Each ElW (ps.map fun x => (o, x)) ys H2 → Q (.ref D) H2) : tLc (iList K (tC (.ref a))) (gName i) tYes te [i] σ H1 Q := by
  refine lcG (K := K) (fun D (x : Addr × List Nat) v H => ∃ t, v = .ref t ∧ t ≠ D ∧ H t = some (.tup [optV o, .ref x.1])) (fun D x v H H' h => by
    rintro ⟨t, e, n, q⟩
    exact ⟨t, e, n, h _ _ q n⟩) ps (fun x => V.ref x.1) (SqL.of hq) hl (fun D nD x hx H2 R ys s2 eD q => ?_) fun D H2 ys nD s2 eD ea => ?_
  · refine he x hx H2 R s2 fun t nt => q _ _ (same_new nt) ⟨t, rfl, fun z => ?_, upd_same⟩
    rw [z, eD] at nt
    cases nt
  · refine hd D H2 ys nD s2 eD (ea.map (fun x => (o, x)) fun x v h => ?_)
    obtain ⟨t, e, _, q⟩ := h
    exact ⟨t, e, q⟩
def spWays (K : PySem.W.Frag) : Sp := fun vs H Q _ => ∃ (m : Nat) (kb d : Addr) (ks : List Nat) (kvs : List (Key × V)) (ps : Prs) (H0 : Hp), vs = [nV m, .ref kb, .ref d] ∧ SqL K H kb (ks.map nV) ∧ ks.length ≤ 16 ∧ H d = some (.dK kvs) ∧ BM H0 H kvs ps ∧ ps.length ≤ 16 ∧
  ∀ H' D ys, Same H H' → H D = none → H' D = some (.lst ys) → Each ElW (waysOf ks ps m) ys H' → ys.length ≤ 256 → Q (.ref D) H'
theorem sc_ways : FnScope ["mark", "kept_cards", "by_mark", "ways", "card", "put_right", "filling"] ["mark", "kept_cards", "by_mark"] (defScope s_ways_to_read) := ⟨rfl, rfl, rfl, by decide +kernel, rfl, by decide +kernel, by decide +kernel⟩
theorem xor_nn (m n : Nat) : Builtin.bitXor ((m : Nat) : Int) ((n : Nat) : Int) = ((m ^^^ n : Nat) : Int) := by
  rw [Bits.bitXor_pp (by omega) (by omega)]
  congr 1
theorem ok_ways {f : Addr} {fd : FuncData} (F : Fun K "ways_to_read" "ways_to_read" s_ways_to_read f fd) (T : Txt K mg C tc pc)
    (GM : GOk P w K mg base "mark_of" 1 ["cards"] (spMark K)) : FnOk P w K mg base CX0 2 f fd ["mark", "kept_cards", "by_mark"] (spWays K) := by
  refine F.ok sc_ways (fun vs H Q E h => ?_) (fun cdv A outer s H vs Q E hr h => ?_)
  · obtain ⟨m, kb, d, ks, kvs, ps, H0, rfl, _⟩ := h
    rfl
  · obtain ⟨m, kb, d, ks, kvs, ps, H0, rfl, hk, hkl, ed, B, hpl, k⟩ := h
    have nd := sc_ways.nd
    have hu := hu_of hr
    refine ⟨_, pss_cons (ps_setLc (i := 3) (own := [("filling", 6)]) rfl nd rfl rfl (sw_true rfl rfl rfl rfl) (pi_list (pe_dget2 hu (pv 2) (pv 0) (pe_lst pa_nil) ⟨rfl, rfl, rfl, rfl⟩)) (blkOk_by rfl)
        (fun s H C cl fp => pg_name (i := 6) nd rfl (Or.inl rfl) (Or.inr rfl)) (fun s H C' cl fp => pts_nil) (fun s H C cl fp => pe_tup (pa_cons pe_non (pa_cons (pv 6) pa_nil))))
      (pss_cons (ps_if (pt_cmpR op_gt (pe_callB call_len_seq (by rfl) T.len PySem.boot_len (pa_cons (pv 3) pa_nil)) pe_int (nomark _)) (pss_one (ps_ret (pv 3))) pss_nil)
      (pss_cons (ps_for PassesOwn.never rfl (pi_list (pv 1)) (pg_name (i := 4) nd rfl (Or.inr rfl))
        (pss_cons (ps_set (i := 5) nd rfl (Or.inl rfl) (pe_op op_xor (pv 0) (pe_g GM hr rfl (pa_cons (pe_lst (pa_cons (pv 4) pa_nil)) pa_nil))))
        (pss_one (ps_expr (pe_bm PySem.F.plainAttrs_list PySem.F.slot_list_extend PySem.F.type_list_extend mt_extend (pv 3) (pa_cons (pe_lc (own := [("filling", 6)]) rfl nd (pi_list (pe_dget2 hu (pv 2) (pv 5) (pe_lst pa_nil) ⟨rfl, rfl, rfl, rfl⟩)) (blkOk_by rfl)
            (fun s H C cl fp => pg_name (i := 6) nd rfl (Or.inl rfl) (Or.inr rfl)) (fun s H C' cl fp => pts_nil) (fun s H C cl fp => pe_tup (pa_cons (pv 4) (pa_cons (pv 6) pa_nil)))) pa_nil))))))
      (pss_one (ps_ret (pv 3))))), ?_⟩
    refine tSet_i (tLc_src (get_fill (m := m) (jd := 2) rfl ed B (fun R q => ⟨_, rfl, q⟩) fun a1 H1 s1 e1 => ?_))
    refine lc_ways (K := K) (o := none) e1 (by have := grp_len ps m; omega) (fun x hx H2 R s2 q => ⟨_, rfl, (by show 2 ≤ sizeLine; decide), fun t nt => q t nt⟩) fun D H2 ys nD s2 eD ea => ?_
    have hys : ys.length ≤ 16 := by
      rw [ea.1, List.length_map]
      exact Nat.le_trans (grp_len ps m) hpl
    refine ⟨_, rfl, D, _, rfl, .inl (SqL.of eD), _, _, rfl, rfl, _, rfl, ?_⟩
    refine ite2 (fun q => ?_) fun q => ?_
    · have q : (0 : Int) < (ys.length : Int) := of_decide_eq_true q
      refine ⟨_, rfl, k H2 D ys (s1.trans s2) (s1.free nD) eD ?_ (by omega)⟩
      have ne : ¬ (wN ps m).isEmpty = true := fun z => by
        have := ea.1
        rw [show (grp ps m).map (fun x => ((none, x) : Way)) = wN ps m from rfl, List.isEmpty_iff.mp z] at this
        rw [this] at q
        simp at q
      unfold waysOf
      rw [if_neg ne]
      exact ea
    · have q : ¬ (0 : Int) < (ys.length : Int) := fun z => q (decide_eq_true z)
      have y0 : ys = [] := List.eq_nil_of_length_eq_zero (by omega)
      have yes : (wN ps m).isEmpty = true := by
        have := ea.1
        rw [y0] at this
        exact List.isEmpty_iff.mpr (List.eq_nil_of_length_eq_zero this.symm)
      subst y0
      have s12 := s1.trans s2
      have e12 : waysOf ks ps m = ks.flatMap (wC ps m) := by unfold waysOf; rw [if_pos yes]
      have nDH : H D = none := s1.free nD
      refine ⟨_, rfl, kb, rfl, ⟨_, s12.seq hk⟩, for_list (K := K) (a := kb) (xs := ks.map nV) (fun i σ H' => ∃ (v4 v5 : Option V) (ys : List V), σ = [some (nV m), some (.ref kb), some (.ref d), some (.ref D), v4, v5, none] ∧ Same H H' ∧ H' D = some (.lst ys) ∧ Each ElW ((ks.take i).flatMap (wC ps m)) ys H' ∧ ys.length ≤ 16 * i)
        ⟨none, none, [], rfl, s12, eD, Each.nil, Nat.le_refl _⟩ (fun i σ H' _ ⟨_, _, _, _, sH, _⟩ => sH.seq hk) ?_ ?_⟩
      · rintro i x σ H' hi ⟨v4, v5, ys, rfl, sH, eD', ea', hyl⟩
        obtain ⟨c, hc, rfl⟩ := get_map hi
        have hil : i < ks.length := (List.getElem?_eq_some_iff.mp hc).1
        refine ⟨_, rfl, _, rfl, (by show 1 ≤ sizeLine; decide), fun p np => ?_⟩
        refine ⟨p, [c], rfl, SqL.of upd_same, _, _, rfl, rfl, ?_⟩
        dsimp only
        rw [xor_nn, mk_one]
        have s3 := sH.trans (same_new np (o := .lst [nV c]))
        have eD3 := same_new np (o := .lst [nV c]) _ _ eD'
        have ea3 : Each ElW ((ks.take i).flatMap (wC ps m)) ys (upd H' p (.lst [nV c])) := ea'.imp fun x v h => h.mono _ _ _ _ (same_new np)
        generalize upd H' p (.lst [nV c]) = H3 at s3 eD3 ea3
        refine tDrop_i (tBM1_i (tVar_i rfl ⟨.inl ⟨rfl, _, SqL.of eD3⟩, ?_⟩))
        refine tLc_src (get_fill (m := m ^^^ (16 + c)) (jd := 2) rfl (s3 _ _ ed) (B.same s3) (fun R q => ⟨_, rfl, q⟩) fun a4 H4 s4 e4 => ?_)
        refine lc_ways (K := K) (o := some c) e4 (by have := grp_len ps (m ^^^ (16 + c)); omega) (fun x hx H5 R s5 q => ⟨_, rfl, _, rfl, (by show 2 ≤ sizeLine; decide), fun t nt => q t nt⟩) fun D5 H5 zs nD5 s5 eD5 ez => ?_
        have hzl : zs.length ≤ 16 := by
          rw [ez.1, List.length_map]
          exact Nat.le_trans (grp_len ps _) hpl
        have eD6 := s5 _ _ (s4 _ _ eD3)
        refine ⟨D, D5, _, _, rfl, rfl, eD6, eD5, by rw [sizeLine_eq]; omega, ?_⟩
        have s6 : Same H H5 := s3.trans (s4.trans s5)
        refine ⟨_, _, ys ++ zs, rfl, same_upd s6 nDH, upd_same, ?_, by rw [List.length_append]; omega⟩
        rw [take_succ_of hc, List.flatMap_append, List.flatMap_cons, List.flatMap_nil, List.append_nil]
        refine Each.append (ea3.imp fun x v h => ?_) (ez.imp fun x v h => h.upd eD6)
        exact (h.mono _ _ _ _ (s4.trans s5)).upd eD6
      · rintro σ H' ⟨v4, v5, ys, rfl, sH, eD', ea', hyl⟩
        rw [List.length_map, List.take_length] at ea'
        rw [List.length_map] at hyl
        exact ⟨_, rfl, k H' D ys sH nDH eD' (by rw [e12]; exact ea') (by omega)⟩
end
end Hc
set_option Elab.async false
set_option linter.all false
set_option maxRecDepth 100000
set_option maxHeartbeats 4000000
namespace Hc
open PySem PySem.Spec PyProof.Rows L2
theorem grp_map {ps : Prs} {fs : List (List Nat)} (h : ps.map (·.2) = fs) (m : Nat) : (grp ps m).map (·.2) = fs.filter fun f => mk f == m := by
  subst h
  unfold grp
  rw [List.filter_map]
  rfl
theorem waysOf_spec {s : Vbenag.State} {ps : Prs} (h : ps.map (·.2) = fills s.lost) (m : Nat) : (waysOf (kept s) ps m).map (fun w => (w.1, w.2.2)) = ways s m := by
  have e1 : (wN ps m).map (fun w => (w.1, w.2.2)) = waysN s m := by
    unfold wN waysN
    rw [List.map_map, ← grp_map h, List.map_map]
    rfl
  have e2 : ∀ c, (wC ps m c).map (fun w => (w.1, w.2.2)) = ((fills s.lost).filter fun f => mk f == m ^^^ (16 + c)).map fun f => (some c, f) := fun c => by
    unfold wC
    rw [List.map_map, ← grp_map h, List.map_map]
    rfl
  have e3 : (wN ps m).isEmpty = (waysN s m).isEmpty := by
    rw [← e1]
    cases wN ps m <;> rfl
  unfold waysOf ways
  rw [e3]
  split
  · rw [List.map_flatMap]
    unfold waysW
    congr 1
    funext c
    exact e2 c
  · exact e1
theorem waysOf_mem {ks : List Nat} {ps : Prs} {m : Nat} {x : Way} (h : x ∈ waysOf ks ps m) : x.2 ∈ ps := by
  have g : ∀ m, ∀ z ∈ grp ps m, z ∈ ps := fun m z hz => (List.mem_filter.mp hz).1
  unfold waysOf at h
  split at h
  · obtain ⟨c, _, hc⟩ := List.mem_flatMap.mp h
    obtain ⟨z, hz, rfl⟩ := List.mem_map.mp hc
    exact g _ z hz
  · obtain ⟨z, hz, rfl⟩ := List.mem_map.mp h
    exact g _ z hz
def ReadV (s : Vbenag.State) (p : Nat) (v : V) (H : Hp) : Prop := match only (ways s (mk (holesAt s p))) with
  | none => v = .non
  | some x => ∃ t b, v = .ref t ∧ H t = some (.tup [optV x.1, .ref b]) ∧ H b = some (.lst (x.2.map nV))
theorem ReadV.mono {s : Vbenag.State} (p : Nat) (v : V) (H H' : Hp) (sm : Same H H') (h : ReadV s p v H) : ReadV s p v H' := by
  unfold ReadV at h ⊢
  cases e : only (ways s (mk (holesAt s p))) with
  | none => rw [e] at h; exact h
  | some x =>
    rw [e] at h
    obtain ⟨t, b, h1, h2, h3⟩ := h
    exact ⟨t, b, h1, sm _ _ h2, sm _ _ h3⟩
def ReadP (s : Vbenag.State) (ps : Prs) (p : Nat) (v : V) (H : Hp) : Prop := match only (ways s (mk (holesAt s p))) with
  | none => v = .non
  | some x => ∃ t b, v = .ref t ∧ H t = some (.tup [optV x.1, .ref b]) ∧ (b, x.2) ∈ ps
theorem ReadP.keep {s : Vbenag.State} {ps : Prs} (p : Nat) (v : V) (H H' : Hp) (sm : ∀ b xs, H b = some (.tup xs) → H' b = some (.tup xs)) (h : ReadP s ps p v H) : ReadP s ps p v H' := by
  unfold ReadP at h ⊢
  cases e : only (ways s (mk (holesAt s p))) with
  | none => rw [e] at h; exact h
  | some x =>
    rw [e] at h
    obtain ⟨t, b, h1, h2, h3⟩ := h
    exact ⟨t, b, h1, sm _ _ h2, h3⟩
theorem range_take {n i : Nat} (h : i < n) : (List.range n).take (i + 1) = (List.range n).take i ++ [i] := take_succ_of (List.getElem?_range h)
theorem kept_len {s : Vbenag.State} (h : Wf s) : (kept s).length ≤ 16 := inc_len ((inc_used s).filter _) fun x hx => used_lt (List.mem_filter.mp hx).1
section
variable {P : Program} {w : World} {K : PySem.W.Frag} {mg : Str → Option Value} {base : Heap} {C tc pc : Addr}
def spRead (C : Addr) : Sp := fun vs H Q _ => ∃ (a : Addr) (y : Lay) (s : Vbenag.State), vs = [.ref a] ∧ FileAt C H a y s ∧ ∀ H' D ys, Same H H' → H D = none → H' D = some (.lst ys) → Each (ReadV s) (List.range s.places) ys H' → Q (.ref D) H'
theorem sc_read : FnScope ["card_file", "kept_cards", "by_mark", "readings", "place", "ways"] ["card_file"] (defScope s_read_places) := ⟨rfl, rfl, rfl, by decide +kernel, rfl, by decide +kernel, by decide +kernel⟩
theorem ok_read {f : Addr} {fd : FuncData} (F : Fun K "read_places" "read_places" s_read_places f fd) (T : Txt K mg C tc pc)
    (MK : MOk P w K mg base C "kept_cards" 2 ["self"] (spCards C kept)) (ML : MOk P w K mg base C "lost_cards" 2 ["self"] (spCards C (·.lost))) (MA : MOk P w K mg base C "cards_at" 2 ["self", "place"] (spCardsAt C))
    (GM : GOk P w K mg base "mark_of" 1 ["cards"] (spMark K)) (GF : GOk P w K mg base "fillings_by_mark" 2 ["lost_cards"] (spFillings K)) (GW : GOk P w K mg base "ways_to_read" 2 ["mark", "kept_cards", "by_mark"] (spWays K)) :
    FnOk P w K mg base CX0 3 f fd ["card_file"] (spRead C) := by
  refine F.ok sc_read (fun vs H Q E h => ?_) (fun cdv A outer s H vs Q E hr h => ?_)
  · obtain ⟨a, y, s, rfl, _⟩ := h
    rfl
  · obtain ⟨a, y, st, rfl, hF, k⟩ := h
    have nd := sc_read.nd
    have hr1 : Room 1 _ := hr.mono (by decide)
    refine ⟨_, pss_cons (ps_set (i := 1) nd rfl (Or.inl rfl) (pe_m0 MK T.cl hr (pv 0)))
      (pss_cons (ps_set (i := 2) nd rfl (Or.inl rfl) (pe_g GF hr rfl (pa_cons (pe_m0 ML T.cl hr (pv 0)) pa_nil)))
      (pss_cons (ps_set (i := 3) nd rfl (Or.inl rfl) (pe_lst pa_nil))
      (pss_cons (ps_for PassesOwn.never rfl (pi_range1 rfl T.range (pa_cons (pe_fld (pv 0) rfl) pa_nil)) (pg_name (i := 4) nd rfl (Or.inl rfl))
        (pss_cons (ps_set (i := 5) nd rfl (Or.inl rfl) (pe_g GW hr rfl (pa_cons (pe_g GM hr1 rfl (pa_cons (pe_m MA T.cl hr (pv 0) (pa_cons (pv 4) pa_nil)) pa_nil)) (pa_cons (pv 1) (pa_cons (pv 2) pa_nil)))))
        (pss_one (ps_expr (pe_bm PySem.F.plainAttrs_list PySem.F.slot_list_append PySem.F.type_list_append mt_append (pv 3)
          (pa_cons (pe_ifExp (pt_cmpR op_eq (pe_callB call_len_seq (by rfl) T.len PySem.boot_len (pa_cons (pv 5) pa_nil)) pe_int (nomark _)) (pe_ix ix_list (pv 5) pe_int (fun _ _ => rfl)) pe_non) pa_nil))))))
      (pss_one (ps_ret (pv 3)))))), ?_⟩
    refine ⟨_, rfl, a, _, _, rfl, hF.obj, rfl, a, y, st, rfl, hF, fun H1 kb s1 n1 e1 => ?_⟩
    have hF1 := hF.same s1
    refine ⟨_, rfl, a, _, _, rfl, hF1.obj, rfl, a, y, st, rfl, hF1, fun H2 lb s2 n2 e2 => ?_⟩
    refine ⟨lb, st.lost, rfl, SqL.of e2, hF.wf.lostI.nodup, hF.wf.lost4, fun H3 d ps kvs H0 s3 n3 ef hps ed B => ?_⟩
    refine ⟨(by show 0 ≤ sizeLine; decide), fun S nS => ?_⟩
    have s13 : Same H H3 := s1.trans (s2.trans s3)
    have hF3 := hF.same s13
    have hFS := hF3.same (same_new nS (o := .lst []))
    have p40 := hF.wf.p40
    have hpl : ps.length ≤ 16 := by
      have := fills_take_len hF.wf.lostI.nodup hF.wf.lost4 st.lost.length
      rw [List.take_length, ← ef, List.length_map] at this
      exact this
    have ekb : H3 kb = some (.lst ((kept st).map nV)) := s3 _ _ (s2 _ _ e1)
    refine ⟨_, rfl, a, C, _, _, _, rfl, hFS.obj, T.cl, T.nP, rfl, _, rfl, by omega, by omega, ?_⟩
    rw [Int.toNat_natCast]
    refine for_range (lo := 0) (n := st.places) (fun i σ H' => ∃ (v4 v5 : Option V) (ys : List V), σ = [some (.ref a), some (.ref kb), some (.ref d), some (.ref S), v4, v5] ∧ Same H3 H' ∧ H' S = some (.lst ys) ∧ Each (ReadP st ps) ((List.range st.places).take i) ys H')
      ⟨none, none, [], rfl, same_new nS, upd_same, Each.nil⟩ ?_ ?_
    · rintro i σ H' hi ⟨v4, v5, ys, rfl, sH, eS, ea⟩
      have hFi := hF3.same sH
      rw [show (0 : Int) + (i : Int) = (i : Int) by omega]
      refine ⟨_, rfl, a, _, _, rfl, hFi.obj, rfl, _, rfl, a, y, st, i, rfl, hFi, hi, fun H4 D4 s4 n4 e4 => ?_⟩
      refine ⟨D4, holesAt st i, rfl, SqL.of e4, _, rfl, _, rfl, ?_⟩
      refine ⟨mk (holesAt st i), kb, d, kept st, kvs, ps, H0, rfl, SqL.of (s4 _ _ (sH _ _ ekb)), kept_len hF.wf, s4 _ _ (sH _ _ ed), (B.same sH).same s4, hpl, fun H5 D5 zs s5 n5 e5 ez hzl => ?_⟩
      have eS5 := s5 _ _ (s4 _ _ eS)
      have sH5 := sH.trans (s4.trans s5)
      have hyl : ys.length < sizeLine := by
        refine small1000 ?_
        rw [ea.1, List.length_take, List.length_range]
        omega
      refine ⟨_, rfl, .inl ⟨rfl, _, SqL.of eS5⟩, ?_⟩
      have ea5 : Each (ReadP st ps) ((List.range st.places).take i) ys H5 := ea.imp fun p v h => h.keep _ _ _ _ fun b xs e => s5 _ _ (s4 _ _ e)
      have wsp := waysOf_spec ef (mk (holesAt st i))
      have eo : only (ways st (mk (holesAt st i))) = (only (waysOf (kept st) ps (mk (holesAt st i)))).map fun w => (w.1, w.2.2) := by rw [← wsp, only_map]
      have fin : ∀ v, ReadP st ps i v H5 → ∃ (v4 v5 : Option V) (ys' : List V), [some (V.ref a), some (.ref kb), some (.ref d), some (.ref S), some (.int (i : Int)), some (.ref D5)] = [some (.ref a), some (.ref kb), some (.ref d), some (.ref S), v4, v5] ∧ Same H3 (upd H5 S (.lst (ys ++ [v]))) ∧
          upd H5 S (.lst (ys ++ [v])) S = some (.lst ys') ∧ Each (ReadP st ps) ((List.range st.places).take (i + 1)) ys' (upd H5 S (.lst (ys ++ [v]))) := fun v hv => by
        have kp : ∀ b xs, H5 b = some (.tup xs) → upd H5 S (.lst (ys ++ [v])) b = some (.tup xs) := fun b xs e => by rw [upd_ne (ne_of e eS5 (by intro z; cases z))]; exact e
        refine ⟨_, _, _, rfl, same_upd sH5 nS, upd_same, ?_⟩
        rw [range_take hi]
        exact (ea5.imp fun p v h => h.keep _ _ _ _ kp).snoc (hv.keep _ _ _ _ kp)
      refine ⟨_, rfl, D5, _, rfl, .inl (SqL.of e5), rfl, _, rfl, ?_⟩
      refine ite2 (fun q => ?_) fun q => ?_
      · have q : (zs.length : Int) = 1 := by
          have := of_decide_eq_true q
          injection this
        have hz1 : zs.length = 1 := by omega
        obtain ⟨v0, rfl⟩ : ∃ v0, zs = [v0] := by
          match zs, hz1 with
          | [v0], _ => exact ⟨v0, rfl⟩
        have hw1 : (waysOf (kept st) ps (mk (holesAt st i))).length = 1 := ez.1.symm
        obtain ⟨w0, ew⟩ : ∃ w0, waysOf (kept st) ps (mk (holesAt st i)) = [w0] := by
          match h : waysOf (kept st) ps (mk (holesAt st i)), hw1 with
          | [w0], _ => exact ⟨w0, rfl⟩
        obtain ⟨t, rfl, et⟩ := ez.2 0 w0 v0 (by rw [ew]; rfl) rfl
        refine ⟨_, rfl, D5, _, _, _, rfl, rfl, SqL.of e5, (rfl : atI [V.ref t] 0 = some (.ref t)), S, _, _, rfl, rfl, eS5, hyl, fin _ ?_⟩
        unfold ReadP
        rw [eo, ew]
        exact ⟨t, w0.2.1, rfl, et, waysOf_mem (ks := kept st) (m := mk (holesAt st i)) (x := w0) (by rw [ew]; exact List.mem_cons_self ..)⟩
      · have q : ¬ zs.length = 1 := fun z => q (decide_eq_true (by rw [z]; rfl))
        refine ⟨S, _, _, rfl, rfl, eS5, hyl, fin _ ?_⟩
        unfold ReadP
        rw [eo, only_len, if_neg (by rw [← ez.1]; exact q)]
        rfl
    · rintro σ H' ⟨v4, v5, ys, rfl, sH, eS, ea⟩
      rw [List.take_of_length_le (by rw [List.length_range]; exact Nat.le_refl _)] at ea
      refine ⟨_, rfl, k H' S ys (s13.trans sH) (s13.free nS) eS (ea.imp fun p v h => ?_)⟩
      unfold ReadP at h
      unfold ReadV
      cases e : only (ways st (mk (holesAt st p))) with
      | none => rw [e] at h; exact h
      | some x =>
        rw [e] at h
        obtain ⟨t, b, h1, h2, h3⟩ := h
        exact ⟨t, b, h1, h2, sH _ _ (hps _ h3)⟩
end
end Hc
set_option Elab.async false
set_option linter.all false
set_option maxRecDepth 100000
set_option maxHeartbeats 4000000
namespace Hc
open PySem PySem.Spec PyProof.Rows L2
theorem tLc_rng {te' : TE} {g : TG} {tt : TT} {te : TE} {vs : List Nat} {σ : L2.St} {H : Hp} {Q : VK} (h : te' σ H fun x H1 => tLc (iRng1 (tCons (tC x) tNil)) g tt te vs σ H1 Q) : tLc (iRng1 (tCons te' tNil)) g tt te vs σ H Q := h
theorem Each.get {α : Type} {El : α → V → Hp → Prop} {l : List α} {ys : List V} {H : Hp} (h : Each El l ys H) {j : Nat} {x : α} (hj : l[j]? = some x) : ∃ v, ys[j]? = some v ∧ El x v H := by
  have hl : j < ys.length := by rw [h.1]; exact (List.getElem?_eq_some_iff.mp hj).1
  exact ⟨_, List.getElem?_eq_getElem hl, h.2 j x _ hj (List.getElem?_eq_getElem hl)⟩
theorem read_none {s : Vbenag.State} (h : Wf s) {p : Nat} {v : V} {H : Hp} (r : ReadV s p v H) : decide (v = .non) = (Vbenag.readAt s p).isNone := by
  rw [readAt_ways h]
  unfold ReadV at r
  cases e : only (ways s (mk (holesAt s p))) with
  | none =>
    rw [e] at r
    rw [show v = .non from r]
    rfl
  | some x =>
    rw [e] at r
    obtain ⟨t, b, rfl, _⟩ := r
    rfl
def wrongAt (s : Vbenag.State) (p : Nat) : List (Nat × Nat) := match Vbenag.readAt s p with
  | none => []
  | some r => r.2.map fun c => (c, p)
theorem wrongHoles_eq (s : Vbenag.State) : Vbenag.wrongHoles s = (List.range s.places).flatMap (wrongAt s) := rfl
theorem read_wrong {s : Vbenag.State} (h : Wf s) {p : Nat} {v : V} {H : Hp} (r : ReadV s p v H) : (v = .non ∧ wrongAt s p = []) ∨ (∃ t b, v = .ref t ∧ H t = some (.tup [.non, .ref b]) ∧ wrongAt s p = []) ∨ ∃ t b c, v = .ref t ∧ H t = some (.tup [nV c, .ref b]) ∧ wrongAt s p = [(c, p)] := by
  unfold wrongAt
  rw [readAt_ways h]
  unfold ReadV at r
  cases e : only (ways s (mk (holesAt s p))) with
  | none =>
    rw [e] at r
    exact .inl ⟨r, rfl⟩
  | some x =>
    rw [e] at r
    obtain ⟨t, b, rfl, h1, _⟩ := r
    obtain ⟨o, f⟩ := x
    cases o with
    | none => exact .inr (.inl ⟨t, b, rfl, h1, rfl⟩)
    | some c => exact .inr (.inr ⟨t, b, c, rfl, h1, rfl⟩)
def ElP (x : Nat × Nat) (v : V) (H : Hp) : Prop := ∃ t, v = .ref t ∧ H t = some (.tup [nV x.1, nV x.2])
theorem ElP.upd {x : Nat × Nat} {v : V} {H : Hp} {D : Addr} {xs : List V} {o : HO} (h : ElP x v H) (hD : H D = some (.lst xs)) : ElP x v (L2.upd H D o) := by
  obtain ⟨t, e, q⟩ := h
  exact ⟨t, e, by rw [upd_ne (ne_of q hD (by intro z; cases z))]; exact q⟩
theorem ElP.mono (x : Nat × Nat) (v : V) (H H' : Hp) (s : Same H H') (h : ElP x v H) : ElP x v H' := by
  obtain ⟨t, e, q⟩ := h
  exact ⟨t, e, s _ _ q⟩
def pairV (x : Nat × Nat) : List V := [nV x.1, nV x.2]
theorem pairsRow_V (l : List (Nat × Nat)) : (Vbenag.pairsRow l).map V.int = nV l.length :: l.flatMap pairV := by
  show V.int _ :: (l.flatMap fun x => [(x.1 : Int), (x.2 : Int)]).map V.int = _
  rw [List.map_flatMap]
  rfl
theorem wrong_len {s : Vbenag.State} : ∀ (l : List Nat), (l.flatMap (wrongAt s)).length ≤ l.length
  | [] => Nat.le_refl _
  | p :: l => by
    rw [List.flatMap_cons, List.length_append, List.length_cons]
    have h1 := wrong_len (s := s) l
    have h2 : (wrongAt s p).length ≤ 1 := by
      unfold wrongAt
      cases e : Vbenag.readAt s p with
      | none => exact Nat.zero_le _
      | some r =>
        have := (readings_mem (readAt_mem e)).2.1
        rcases wrongIn_shape this with z | ⟨m, z⟩
        · show (r.2.map _).length ≤ 1
          rw [z]; exact Nat.zero_le _
        · show (r.2.map _).length ≤ 1
          rw [z]; exact Nat.le_refl _
    omega
section
variable {P : Program} {w : World} {K : PySem.W.Frag} {mg : Str → Option Value} {base : Heap} {C tc pc : Addr}
def spUnread (C : Addr) : Sp := fun vs H Q _ => ∃ (a : Addr) (y : Lay) (s : Vbenag.State), vs = [.ref a] ∧ FileAt C H a y s ∧ CallEnd C a y H Q (Vbenag.step s [[9]])
theorem sc_unread : FnScope ["card_file", "readings", "place"] ["card_file"] (defScope s_places_unread) := ⟨rfl, rfl, rfl, by decide +kernel, rfl, by decide +kernel, by decide +kernel⟩
theorem ok_unread {f : Addr} {fd : FuncData} (F : Fun K "places_unread" "places_unread" s_places_unread f fd) (T : Txt K mg C tc pc)
    (GR : GOk P w K mg base "read_places" 3 ["card_file"] (spRead C)) (GN : GOk P w K mg base "counted" 1 ["numbers"] spCounted) : FnOk P w K mg base CX0 4 f fd ["card_file"] (spUnread C) := by
  refine F.ok sc_unread (fun vs H Q E h => ?_) (fun cdv A outer s H vs Q E hr h => ?_)
  · obtain ⟨a, y, s, rfl, _⟩ := h
    rfl
  · obtain ⟨a, y, st, rfl, hF, k⟩ := h
    have nd := sc_unread.nd
    have hr1 : Room 1 _ := hr.mono (by decide)
    refine ⟨_, pss_cons (ps_set (i := 1) nd rfl (Or.inr rfl) (pe_g GR hr rfl (pa_cons (pv 0) pa_nil)))
      (pss_one (ps_ret (pe_g GN hr1 rfl (pa_cons (pe_lc (own := [("place", 2)]) rfl nd (pi_range1 rfl T.range (pa_cons (pe_callB call_len_seq (by rfl) T.len PySem.boot_len (pa_cons (pv 1) pa_nil)) pa_nil)) (blkOk_by rfl)
        (fun s H C cl fp => pg_name (i := 2) nd rfl (Or.inl rfl) (Or.inr rfl)) (fun s H C' cl fp => pts_one (pt_cmpR op_isN (pe_ix (r := rIxL K) ix_list (pv 1) (pv 2) (fun _ _ => rfl)) pe_non (nomark _)))
        (fun s H C cl fp => pv 2)) pa_nil)))), ?_⟩
    have k : CallEnd C a y H Q (st, Vbenag.listRow (Vbenag.unread st)) := k
    refine tSet_i (tCall1_i (tVar_i rfl ?_))
    refine ⟨a, y, st, rfl, hF, fun H1 D1 ys s1 n1 e1 ea => ?_⟩
    have hyl : ys.length = st.places := by rw [ea.1, List.length_range]
    refine tRet_i (tCall1_i (tLc_rng (tCB1_i (tVar_i rfl ?_))))
    refine ⟨D1, _, rfl, .inl (SqL.of e1), ?_⟩
    rw [hyl]
    refine lcR st.places (fun p => (Vbenag.readAt st p).isNone) nV ⟨places_lt hF.wf, fun p hp H2 R s2 q => ?_, fun p hp _ H2 R s2 q => ?_, fun D H2 hD s2 e => ?_⟩
    · obtain ⟨v, hv, rv⟩ := ea.get (List.getElem?_range (List.mem_range.mp hp))
      refine ⟨_, rfl, _, rfl, D1, _, _, _, rfl, rfl, SqL.of (s2 _ _ e1), atI_nat hv, rfl, _, rfl, ?_⟩
      rw [read_none hF.wf rv]
      exact q H2 (Same.refl _)
    · exact ⟨_, rfl, q H2 (Same.refl _)⟩
    · have e : H2 D = some (.lst ((Vbenag.unread st).map nV)) := e
      have hul : (Vbenag.unread st).length ≤ st.places := by
        have := List.length_filter_le (fun p => (Vbenag.readAt st p).isNone) (List.range st.places)
        rw [List.length_range] at this
        exact this
      have p40 := hF.wf.p40
      refine ⟨D, _, rfl, e, by rw [List.length_map]; omega, fun H3 D3 s3 n3 e3 => ?_⟩
      have s13 := s1.trans s2
      refine k.same hF (s13.trans s3) (s13.free n3) ?_
      rw [e3, listRow_V, List.length_map]
theorem pairs_len (l : List (Nat × Nat)) : (l.flatMap pairV).length = 2 * l.length := by
  induction l with
  | nil => rfl
  | cons a l ih => rw [List.flatMap_cons, List.length_append, ih, List.length_cons]; show 2 + _ = _; omega
def spPaired : Sp := fun vs H Q _ => ∃ (S : Addr) (zs : List V) (l : List (Nat × Nat)), vs = [.ref S] ∧ H S = some (.lst zs) ∧ Each ElP l zs H ∧ l.length ≤ 1000 ∧ ∀ H' D, Same H H' → H D = none → H' D = some (.lst ((Vbenag.pairsRow l).map V.int)) → Q (.ref D) H'
theorem sc_paired : FnScope ["pairs", "answer", "pair"] ["pairs"] (defScope s_paired) := ⟨rfl, rfl, rfl, by decide +kernel, rfl, by decide +kernel, by decide +kernel⟩
theorem ok_paired {f : Addr} {fd : FuncData} (F : Fun K "paired" "paired" s_paired f fd) (T : Txt K mg C tc pc) : FnOk P w K mg base CX0 1 f fd ["pairs"] spPaired := by
  refine F.ok sc_paired (fun vs H Q E h => ?_) (fun cdv A outer s H vs Q E hr h => ?_)
  · obtain ⟨S, zs, l, rfl, _⟩ := h
    rfl
  · obtain ⟨S, zs, l, rfl, eS, ez, hl, k⟩ := h
    have nd := sc_paired.nd
    refine ⟨_, pss_cons (ps_set (i := 1) nd rfl (Or.inl rfl) (pe_lst (pa_cons (pe_callB call_len_seq (by rfl) T.len PySem.boot_len (pa_cons (pv 0) pa_nil)) pa_nil)))
      (pss_cons (ps_for PassesOwn.never rfl (pi_list (pv 0)) (pg_name (i := 2) nd rfl (Or.inl rfl))
        (pss_one (ps_expr (pe_bm PySem.F.plainAttrs_list PySem.F.slot_list_extend PySem.F.type_list_extend mt_extendT (pv 1) (pa_cons (pv 2) pa_nil)))))
      (pss_one (ps_ret (pv 1)))), ?_⟩
    refine ⟨_, rfl, S, _, rfl, .inl (SqL.of eS), (by show 1 ≤ sizeLine; decide), fun R nR => ?_⟩
    have sR := same_new nR (o := .lst [.int (zs.length : Int)])
    refine ⟨_, rfl, S, rfl, ⟨_, SqL.of (sR _ _ eS)⟩, for_list (K := K) (a := S) (xs := zs) (fun i σ H2 => ∃ v6 : Option V, σ = [some (.ref S), some (.ref R), v6] ∧ Same H H2 ∧ H2 R = some (.lst (nV zs.length :: (l.take i).flatMap pairV)))
      ⟨none, rfl, sR, upd_same⟩ (fun i σ H2 _ ⟨_, _, s2, _⟩ => SqL.of (s2 _ _ eS)) ?_ ?_⟩
    · rintro i x σ H2 hi ⟨v6, rfl, s2, eR⟩
      have hil : i < l.length := by rw [← ez.1]; exact (List.getElem?_eq_some_iff.mp hi).1
      have hw := List.getElem?_eq_getElem hil
      obtain ⟨t, rfl, et⟩ := ez.2 i _ x hw hi
      refine ⟨_, rfl, .inl ⟨rfl, _, SqL.of eR⟩, _, rfl, R, t, _, _, rfl, rfl, eR, SqT.of (s2 _ _ et), ?_, ?_⟩
      · have h1 := pairs_len (l.take i)
        rw [List.length_take] at h1
        rw [List.length_cons, sizeLine_eq]
        show _ + 2 ≤ _
        omega
      · refine ⟨_, rfl, same_upd s2 nR, ?_⟩
        rw [upd_same, take_succ_of hw, List.flatMap_append, List.flatMap_cons, List.flatMap_nil, List.append_nil]
        rfl
    · rintro σ H2 ⟨v6, rfl, s2, eR⟩
      rw [ez.1, List.take_length] at eR
      refine ⟨_, rfl, k H2 R s2 nR ?_⟩
      rw [eR, pairsRow_V]
def spWrong (C : Addr) : Sp := fun vs H Q _ => ∃ (a : Addr) (y : Lay) (s : Vbenag.State), vs = [.ref a] ∧ FileAt C H a y s ∧ CallEnd C a y H Q (Vbenag.step s [[10]])
theorem sc_wrong : FnScope ["card_file", "readings", "pairs", "place", "way"] ["card_file"] (defScope s_wrong_holes) := ⟨rfl, rfl, rfl, by decide +kernel, rfl, by decide +kernel, by decide +kernel⟩
theorem ok_wrong {f : Addr} {fd : FuncData} (F : Fun K "wrong_holes" "wrong_holes" s_wrong_holes f fd) (T : Txt K mg C tc pc)
    (GR : GOk P w K mg base "read_places" 3 ["card_file"] (spRead C)) (GP : GOk P w K mg base "paired" 1 ["pairs"] spPaired) : FnOk P w K mg base CX0 4 f fd ["card_file"] (spWrong C) := by
  refine F.ok sc_wrong (fun vs H Q E h => ?_) (fun cdv A outer s H vs Q E hr h => ?_)
  · obtain ⟨a, y, s, rfl, _⟩ := h
    rfl
  · obtain ⟨a, y, st, rfl, hF, k⟩ := h
    have nd := sc_wrong.nd
    have hr1 : Room 1 _ := hr.mono (by decide)
    refine ⟨_, pss_cons (ps_set (i := 1) nd rfl (Or.inl rfl) (pe_g GR hr rfl (pa_cons (pv 0) pa_nil)))
      (pss_cons (ps_set (i := 2) nd rfl (Or.inl rfl) (pe_lst pa_nil))
      (pss_cons (ps_for PassesOwn.never rfl (pi_range1 rfl T.range (pa_cons (pe_callB call_len_seq (by rfl) T.len PySem.boot_len (pa_cons (pv 1) pa_nil)) pa_nil)) (pg_name (i := 3) nd rfl (Or.inl rfl))
        (pss_cons (ps_set (i := 4) nd rfl (Or.inl rfl) (pe_ix ix_list (pv 1) (pv 3) (fun _ _ => rfl)))
        (pss_one (ps_if (PW.pt (pw_and (pt_cmpR op_notN (pv 4) pe_non (nomark _)) (pw_and1 (pt_cmpR op_notN (pe_ix ix_tup (pv 4) pe_int (fun _ _ => rfl)) pe_non (nomark _)))))
          (pss_one (ps_expr (pe_bm PySem.F.plainAttrs_list PySem.F.slot_list_append PySem.F.type_list_append mt_append (pv 2) (pa_cons (pe_tup (pa_cons (pe_ix ix_tup (pv 4) pe_int (fun _ _ => rfl)) (pa_cons (pv 3) pa_nil))) pa_nil)))) pss_nil))))
      (pss_one (ps_ret (pe_g GP hr1 rfl (pa_cons (pv 2) pa_nil)))))), ?_⟩
    have k : CallEnd C a y H Q (st, Vbenag.pairsRow (Vbenag.wrongHoles st)) := k
    have p40 := hF.wf.p40
    refine ⟨_, rfl, a, y, st, rfl, hF, fun H1 D1 ys s1 n1 e1 ea => ?_⟩
    have hyl : ys.length = st.places := by rw [ea.1, List.length_range]
    refine ⟨(by show 0 ≤ sizeLine; decide), fun S nS => ?_⟩
    have e1S := same_new nS (o := .lst []) _ _ e1
    refine ⟨_, rfl, D1, _, rfl, .inl (SqL.of e1S), _, rfl, by rw [hyl]; omega, by rw [hyl]; omega, ?_⟩
    rw [hyl, Int.toNat_natCast]
    refine for_range (lo := 0) (n := st.places) (fun i σ H' => ∃ (v3 v4 : Option V) (zs : List V), σ = [some (.ref a), some (.ref D1), some (.ref S), v3, v4] ∧ Same H1 H' ∧ H' S = some (.lst zs) ∧ Each ElP (((List.range st.places).take i).flatMap (wrongAt st)) zs H')
      ⟨none, none, [], rfl, same_new nS, upd_same, Each.nil⟩ ?_ ?_
    · rintro i σ H' hi ⟨v3, v4, zs, rfl, sH, eS, ez⟩
      rw [show (0 : Int) + (i : Int) = (i : Int) by omega]
      obtain ⟨v, hv, rv⟩ := ea.get (List.getElem?_range hi)
      have rv' := rv.mono _ _ _ _ sH
      refine ⟨_, rfl, _, rfl, D1, _, _, _, rfl, rfl, SqL.of (sH _ _ e1), atI_nat hv, ?_⟩
      refine ⟨_, rfl, rfl, _, rfl, ?_⟩
      have hnext : ((List.range st.places).take (i + 1)).flatMap (wrongAt st) = ((List.range st.places).take i).flatMap (wrongAt st) ++ wrongAt st i := by
        rw [range_take hi, List.flatMap_append, List.flatMap_cons, List.flatMap_nil, List.append_nil]
      have hzl : zs.length ≤ 40 := by
        rw [ez.1]
        refine Nat.le_trans (wrong_len _) ?_
        rw [List.length_take, List.length_range]
        omega
      rcases read_wrong hF.wf rv' with ⟨rfl, ew⟩ | ⟨t, b, rfl, et, ew⟩ | ⟨t, b, c, rfl, et, ew⟩
      · refine iteF (iteF ⟨_, _, zs, rfl, sH, eS, ?_⟩)
        rw [hnext, ew, List.append_nil]
        exact ez
      · refine iteT ⟨_, rfl, t, _, _, _, rfl, rfl, SqT.of et, (rfl : atI [V.non, V.ref b] 0 = some .non), rfl, _, rfl, iteF ⟨_, _, zs, rfl, sH, eS, ?_⟩⟩
        rw [hnext, ew, List.append_nil]
        exact ez
      · refine iteT ⟨_, rfl, t, _, _, _, rfl, rfl, SqT.of et, (rfl : atI [nV c, V.ref b] 0 = some (nV c)), rfl, _, rfl, iteT ?_⟩
        refine ⟨_, rfl, .inl ⟨rfl, _, SqL.of eS⟩, _, rfl, t, _, _, _, rfl, rfl, SqT.of et, (rfl : atI [nV c, V.ref b] 0 = some (nV c)), _, rfl, (by show 2 ≤ sizeLine; decide), fun u nu => ?_⟩
        have su := same_new nu (o := .tup [nV c, .int (i : Int)])
        refine ⟨S, _, _, rfl, rfl, su _ _ eS, small1000 (by omega), ?_⟩
        refine ⟨_, _, zs ++ [.ref u], rfl, same_upd (sH.trans su) nS, upd_same, ?_⟩
        rw [hnext, ew]
        refine (ez.imp fun x v h => (h.mono _ _ _ _ su).upd (su _ _ eS)).snoc ?_
        exact ElP.upd (D := S) ⟨u, rfl, upd_same⟩ (su _ _ eS)
    · rintro σ H' ⟨v3, v4, zs, rfl, sH, eS, ez⟩
      rw [List.take_of_length_le (by rw [List.length_range]; exact Nat.le_refl _), ← wrongHoles_eq] at ez
      have hzl : zs.length ≤ 40 := by
        rw [ez.1, wrongHoles_eq]
        refine Nat.le_trans (wrong_len _) ?_
        rw [List.length_range]
        omega
      refine ⟨_, rfl, S, zs, Vbenag.wrongHoles st, rfl, eS, ez, by rw [← ez.1]; omega, fun H2 D2 s2 n2 e2 => ?_⟩
      have s13 := s1.trans sH
      exact k.same hF (s13.trans s2) (s13.free n2) e2
end
end Hc
set_option Elab.async false
set_option linter.all false
set_option maxRecDepth 100000
set_option maxHeartbeats 4000000
namespace Hc
open PySem PySem.Spec PyProof.Rows L2
def dN (l : List Nat) : List PyData := l.map fun n : Nat => PyData.int (n : Int)
theorem dpAll (K : PySem.W.Frag) (H : Hp) : ∀ l : List Nat, DpAll K H (l.map nV) (dN l)
  | [] => .nil
  | a :: l => .cons (.int _) (dpAll K H l)
theorem canL : ∀ l : List Nat, PyData.canLayAll0 (dN l) = true
  | [] => by simp [dN, PyData.canLayAll0]
  | a :: l => by
    have := canL l
    simp only [dN, List.map_cons, PyData.canLayAll0, PyData.canLay0, Bool.true_and] at this ⊢
    exact this
theorem depL : ∀ l : List Nat, PyData.depthAll (dN l) = 0
  | [] => by simp [dN, PyData.depthAll]
  | a :: l => by
    have := depL l
    simp only [dN, List.map_cons, PyData.depthAll, PyData.depth] at this ⊢
    omega
theorem shapedN (l : List Nat) : SeqAt.shaped (.list (dN l)) = true := by
  unfold SeqAt.shaped
  rw [Bool.and_eq_true, decide_eq_true_eq]
  refine ⟨?_, ?_⟩
  · simp only [PyData.canLay0]
    exact canL l
  · simp only [PyData.depth, depL]
    omega
theorem eqvN : ∀ l m : List Nat, PyData.eqvAll (dN l) (dN m) = (l == m)
  | [], [] => by simp [dN, PyData.eqvAll]
  | a :: l, b :: m => by
    have ih := eqvN l m
    simp only [dN, List.map_cons, PyData.eqvAll, PyData.eqv] at ih ⊢
    rw [ih]
    show (((a : Int) == (b : Int)) && (l == m)) = (a == b && l == m)
    congr 1
    rw [Bool.eq_iff_iff, beq_iff_eq, beq_iff_eq]
    omega
  | [], b :: m => by simp [dN, PyData.eqvAll]
  | a :: l, [] => by simp [dN, PyData.eqvAll]
theorem eqL_i {K : PySem.W.Frag} {H : Hp} {a b : Addr} {l m : List Nat} {Q : VK} (ha : SqL K H a (l.map nV)) (hb : SqL K H b (m.map nV)) (q : Q (.bl (l == m)) H) : rEqD K (.ref a) (.ref b) H Q := by
  refine ⟨.list (dN l), .list (dN m), .lst ha (dpAll K H l), .lst hb (dpAll K H m), shapedN l, shapedN m, ?_⟩
  have e : PyData.eqv (.list (dN l)) (.list (dN m)) = (l == m) := by
    simp only [PyData.eqv]
    exact eqvN l m
  rw [e]
  exact q
theorem filter_eq_all (q : Nat → Bool) (l : List Nat) : (l.filter q == l) = l.all q := by
  rw [Bool.eq_iff_iff, beq_iff_eq, List.filter_eq_self, List.all_eq_true]
section
variable {P : Program} {w : World} {K : PySem.W.Frag} {mg : Str → Option Value} {base : Heap} {C tc pc : Addr}
def spLacks (C : Addr) : Sp := fun vs H Q _ => ∃ (a : Addr) (y : Lay) (s : Vbenag.State), vs = [.ref a] ∧ FileAt C H a y s ∧ ∀ H', Same H H' → Q (.bl (Vbenag.lacks s (Vbenag.allTerms s))) H'
theorem terms_lt {s : Vbenag.State} (h : Wf s) : (termsOf s).length < 1000 := by
  unfold termsOf
  rw [List.length_range]
  have := h.t11
  omega
theorem sc_lacks : FnScope ["self", "term"] ["self"] (defScope m_lacks_a_term) := ⟨rfl, rfl, rfl, by decide +kernel, rfl, by decide +kernel, by decide +kernel⟩
theorem ok_lacks {f : Addr} {fd : FuncData} (F : Fun K "lacks_a_term" "CardFile.lacks_a_term" m_lacks_a_term f fd) (T : Txt K mg C tc pc)
    (MT : MOk P w K mg base C "terms" 1 ["self"] (spCards C termsOf)) (GO : GOk P w K mg base "card_of" 1 ["term"] spCardOf) (ML : MOk P w K mg base C "is_lost" 1 ["self", "card"] (spIsLost C)) : FnOk P w K mg base CX0 2 f fd ["self"] (spLacks C) := by
  refine F.ok sc_lacks (fun vs H Q E h => ?_) (fun cdv A outer s H vs Q E hr h => ?_)
  · obtain ⟨a, y, s, rfl, _⟩ := h
    rfl
  · obtain ⟨a, y, st, rfl, hF, k⟩ := h
    have nd := sc_lacks.nd
    refine ⟨_, pss_one (ps_ret (pe_callB (cr_any rfl) (by rfl) T.any PyProof.Rows.boot_any (pa_cons (pe_lc (own := [("term", 1)]) rfl nd (pi_list (pe_m0 MT T.cl hr (pv 0))) (blkOk_by rfl)
          (fun s H C cl fp => pg_name (i := 1) nd rfl (Or.inl rfl) (Or.inr rfl)) (fun s H C' cl fp => pts_nil) (fun s H C cl fp => pe_m ML T.cl hr (pv 0) (pa_cons (pe_g GO hr rfl (pa_cons (pv 1) pa_nil)) pa_nil))) pa_nil))), ?_⟩
    refine tRet_i (tCB1_i (tLc_src ?_))
    refine ⟨_, rfl, a, _, _, rfl, hF.obj, rfl, a, y, st, rfl, hF, fun H1 D1 s1 n1 e1 => ?_⟩
    have h11 := hF.wf.t11
    refine lcL (K := K) (termsOf st) nV (fun _ => true) (fun t => V.bl (st.lost.contains (Vbenag.cardOf t))) (SqL.of e1) ⟨terms_lt hF.wf, fun c hc H2 R s2 q => q H2 (Same.refl _), fun t hc _ H2 R s2 q => ?_, fun D2 H2 n2 s2 e2 => ?_⟩
    · have hF2 := hF.same (s1.trans s2)
      have ht := List.mem_range.mp hc
      exact ⟨_, rfl, a, _, _, rfl, hF2.obj, rfl, _, rfl, t, rfl, by omega, a, y, st, Vbenag.cardOf t, rfl, hF2, q H2 (Same.refl _)⟩
    · rw [filter_true, bl_map] at e2
      refine ⟨D2, _, rfl, SqL.of e2, ?_⟩
      rw [any_map_id]
      exact k H2 (s1.trans s2)
def spItemHas (C : Addr) : Sp := fun vs H Q _ => ∃ (a : Addr) (y : Lay) (s : Vbenag.State) (p t : Nat), vs = [.ref a, nV p, nV t] ∧ FileAt C H a y s ∧ p < s.places ∧ Q (.bl (foundAt s [t] p)) H
theorem sc_item_has : FnScope ["self", "place", "term", "told"] ["self", "place", "term"] (defScope m_item_has) := ⟨rfl, rfl, rfl, by decide +kernel, rfl, by decide +kernel, by decide +kernel⟩
theorem ok_item_has {f : Addr} {fd : FuncData} (F : Fun K "item_has" "CardFile.item_has" m_item_has f fd) (T : Txt K mg C tc pc) : FnOk P w K mg base CX0 1 f fd ["self", "place", "term"] (spItemHas C) := by
  refine F.ok sc_item_has (fun vs H Q E h => ?_) (fun cdv A outer s H vs Q E hr h => ?_)
  · obtain ⟨a, y, s, p, t, rfl, _⟩ := h
    rfl
  · obtain ⟨a, y, st, p, t, rfl, hF, hp, k⟩ := h
    have nd := sc_item_has.nd
    refine ⟨_, pss_cons (ps_set (i := 3) nd rfl (Or.inl rfl) (pe_ix ix_list (pe_fld (pv 0) rfl) (pv 1) (fun _ _ => rfl)))
      (pss_one (ps_ret (pe_and (pe_cmpR op_notN (pv 3) pe_non (nomark _)) (pe_one (pe_cmpR op_in_seq (pv 2) (pv 3) (by with_unfolding_all rfl)))))), ?_⟩
    obtain ⟨o, c1, c2, c3⟩ := hF.cellAt hp
    refine ⟨_, rfl, a, C, _, _, _, rfl, hF.obj, T.cl, T.nI, rfl, _, rfl, y.hi, _, _, _, rfl, rfl, SqL.of hF.items, atI_nat c2, ?_⟩
    refine ⟨_, rfl, rfl, _, rfl, ?_⟩
    rcases c3 with ⟨rfl, e0⟩ | ⟨b0, l0, rfl, e0, e1⟩
    · refine iteF ?_
      have e : foundAt st [t] p = false := by unfold foundAt; rw [e0]
      rw [e] at k
      exact k
    · refine iteT ?_
      have e : foundAt st [t] p = inV (nV t) (l0.map nV) := by
        unfold foundAt
        rw [e0, inV_nV]
        show ([t].all fun t => l0.contains t) = _
        rw [List.all_cons, List.all_nil, Bool.and_true]
      rw [e] at k
      exact ⟨_, rfl, _, rfl, b0, _, rfl, .inl (SqL.of e1), rfl, flat_nV _, k⟩
def spItemCount (C : Addr) : Sp := fun vs H Q _ => ∃ (a : Addr) (y : Lay) (s : Vbenag.State), vs = [.ref a] ∧ FileAt C H a y s ∧ ∀ H', Same H H' → Q (nV (s.items.countP fun x => x.isSome)) H'
theorem cells_count {C : Addr} {H : Hp} {a : Addr} {y : Lay} {s : Vbenag.State} (h : FileAt C H a y s) : (y.cells.filter fun o => o.isSome).length = s.items.countP fun x => x.isSome := by
  have e : y.cells.map (fun o => o.isSome) = s.items.map fun x => x.isSome := by
    apply List.ext_getElem?
    intro j
    rw [List.getElem?_map, List.getElem?_map]
    cases e : y.cells[j]? with
    | none =>
      have := List.getElem?_eq_none_iff.mp e
      rw [List.getElem?_eq_none (by rw [h.wf.il, ← h.clen]; exact this)]
      rfl
    | some o =>
      cases o with
      | none => rw [h.cellN j e]; rfl
      | some b =>
        obtain ⟨l, h1, _⟩ := h.cellS j b e
        rw [h1]
        rfl
  have c : ∀ {α : Type} (l : List (Option α)), (l.filter fun o => o.isSome).length = (l.map fun o => o.isSome).countP id := fun l => by
    rw [List.countP_map, List.countP_eq_length_filter]
    rfl
  rw [c, e, List.countP_map]
  rfl
theorem sc_item_count : FnScope ["self", "told"] ["self"] (defScope m_item_count) := ⟨rfl, rfl, rfl, by decide +kernel, rfl, by decide +kernel, by decide +kernel⟩
theorem ok_item_count {f : Addr} {fd : FuncData} (F : Fun K "item_count" "CardFile.item_count" m_item_count f fd) (T : Txt K mg C tc pc) : FnOk P w K mg base CX0 1 f fd ["self"] (spItemCount C) := by
  refine F.ok sc_item_count (fun vs H Q E h => ?_) (fun cdv A outer s H vs Q E hr h => ?_)
  · obtain ⟨a, y, s, rfl, _⟩ := h
    rfl
  · obtain ⟨a, y, st, rfl, hF, k⟩ := h
    have nd := sc_item_count.nd
    refine ⟨_, pss_one (ps_ret (pe_callB call_len_seq (by rfl) T.len PySem.boot_len (pa_cons (pe_lc (own := [("told", 1)]) rfl nd (pi_list (pe_fld (pv 0) rfl)) (blkOk_by rfl)
          (fun s H C cl fp => pg_name (i := 1) nd rfl (Or.inl rfl) (Or.inr rfl)) (fun s H C' cl fp => pts_one (pt_cmpR op_notN (pv 1) pe_non (nomark _))) (fun s H C cl fp => pv 1)) pa_nil))), ?_⟩
    refine tRet_i (tCB1_i ?_)
    have p40 := hF.wf.p40
    refine lcLf (K := K) (j := 0) y.cells cellV (fun o => o.isSome) cellV rfl hF.obj T.cl T.nI rfl (SqL.of hF.items) ⟨by rw [hF.clen]; omega, fun o ho H2 R s2 q => ?_, fun o ho _ H2 R s2 q => ?_, fun D H2 hD s2 e => ?_⟩
    · refine ⟨_, rfl, rfl, _, rfl, ?_⟩
      have e : (!decide (cellV o = .non)) = o.isSome := by cases o <;> rfl
      rw [e]
      exact q H2 (Same.refl _)
    · exact ⟨_, rfl, q H2 (Same.refl _)⟩
    · refine ⟨D, _, rfl, .inl (SqL.of e), ?_⟩
      rw [List.length_map, cells_count hF]
      exact k H2 s2
def spHaveAll (C : Addr) : Sp := fun vs H Q _ => ∃ (a : Addr) (y : Lay) (s : Vbenag.State) (ls : List Nat), vs = [.ref a] ∧ FileG C H a y s ls ∧ s.lost = [] ∧ ∀ H' y', FileAt C H' a y' s → Chg a y y' H H' → Q .non H'
theorem sc_have_all : FnScope ["self"] ["self"] (defScope m_have_all_cards) := ⟨rfl, rfl, rfl, by decide +kernel, rfl, by decide +kernel, by decide +kernel⟩
theorem ok_have_all {f : Addr} {fd : FuncData} (F : Fun K "have_all_cards" "CardFile.have_all_cards" m_have_all_cards f fd) (T : Txt K mg C tc pc) : FnOk P w K mg base CX0 1 f fd ["self"] (spHaveAll C) := by
  refine F.ok sc_have_all (fun vs H Q E h => ?_) (fun cdv A outer s H vs Q E hr h => ?_)
  · obtain ⟨a, y, s, ls, rfl, _⟩ := h
    rfl
  · obtain ⟨a, y, st, ls, rfl, hF, hl, k⟩ := h
    refine ⟨_, pss_one (ps_fld (pv 0) pe_dnewK rfl), ?_⟩
    intro d nd
    have na : a ≠ d := ne_of_none hF.obj nd
    refine ⟨_, rfl, a, C, y.dx, _, rfl, (by rw [upd_ne na]; exact hF.obj), T.cl, T.nL, (by show 6 < 1000; decide), ?_⟩
    have ef : putF "lost" (.ref d) (fileF st.terms st.places y.hc y.hh y.hi y.hl) = fileF st.terms st.places y.hc y.hh y.hi d := rfl
    rw [ef]
    have keep : ∀ b o, H b = some o → b ≠ a → upd (upd H d (.dK [])) a (.ins C y.dx (fileF st.terms st.places y.hc y.hh y.hi d)) b = some o := fun b o e n => by
      rw [upd_ne n, upd_ne (ne_of_none e nd)]
      exact e
    refine k _ { y with hl := d, los := [] } ⟨hF.wf, upd_same, ?_, ?_, hF.rlen, fun i c r hi hr' => ?_, hF.rnd, ?_, hF.clen, hF.cellN, fun p b hp => ?_, ?_, ?_⟩ (Chg.of rfl rfl (fun b o e n => ?_) (fun b hb => ?_) fun b o e => ?_)
    · exact keep _ _ hF.cards (ne_of hF.cards hF.obj (by intro z; cases z))
    · exact keep _ _ hF.holes (ne_of hF.holes hF.obj (by intro z; cases z))
    · exact keep _ _ (hF.row i c r hi hr') (ne_of (hF.row i c r hi hr') hF.obj (by intro z; cases z))
    · exact keep _ _ hF.items (ne_of hF.items hF.obj (by intro z; cases z))
    · obtain ⟨l, h1, h2⟩ := hF.cellS p b hp
      exact ⟨l, h1, keep _ _ h2 (ne_of h2 hF.obj (by intro z; cases z))⟩
    · show upd (upd H d (.dK [])) a (.ins C y.dx (fileF st.terms st.places y.hc y.hh y.hi d)) d = some (.dK (lostD []))
      rw [upd_ne na.symm, upd_same]
      rfl
    · rw [hl]
    · exact keep b o e fun z => n (by rw [z]; exact own_self)
    · have hb : b ∈ a :: y.hh :: y.hi :: d :: y.rows := hb
      show b ∈ a :: y.hh :: y.hi :: y.hl :: y.rows ∨ _
      simp only [List.mem_cons] at hb ⊢
      rcases hb with z | z | z | z | z
      · exact .inl (.inl z)
      · exact .inl (.inr (.inl z))
      · exact .inl (.inr (.inr (.inl z)))
      · exact .inr (by rw [z]; exact nd)
      · exact .inl (.inr (.inr (.inr (.inr z))))
    · by_cases z : b = a
      · exact ⟨_, by rw [z]; exact upd_same⟩
      · exact ⟨o, keep b o e z⟩
end
end Hc
set_option Elab.async false
set_option linter.all false
set_option maxRecDepth 100000
set_option maxHeartbeats 4000000
namespace Hc
open PySem PySem.Spec PyProof.Rows L2
theorem range_all (n : Nat) : (List.range n).take n = List.range n := List.take_of_length_le (by rw [List.length_range]; exact Nat.le_refl _)
theorem found_is (s : Vbenag.State) (ts : List Nat) : Vbenag.found s ts = (List.range s.places).filter (foundAt s ts) := rfl
theorem found_len {s : Vbenag.State} (h : Wf s) (ts : List Nat) : (Vbenag.found s ts).length ≤ 40 := by
  have := List.length_filter_le (foundAt s ts) (List.range s.places)
  rw [List.length_range] at this
  exact Nat.le_trans this h.p40
theorem found_at {s : Vbenag.State} {ts : List Nat} {p : Nat} (hp : p < s.places) : (Vbenag.found s ts).contains p = foundAt s ts p := by
  rw [Bool.eq_iff_iff, List.contains_iff_mem, found_is, List.mem_filter, List.mem_range]
  exact ⟨fun q => q.2, fun q => ⟨hp, q⟩⟩
def unlikeQ (s : Vbenag.State) (t p : Nat) : Bool := Vbenag.isHole s (Vbenag.cardOf t) p != foundAt s [t] p
def unlikeAt (s : Vbenag.State) (t : Nat) : List (Nat × Nat) := if s.lost.contains (Vbenag.cardOf t) = true then [] else ((List.range s.places).filter (unlikeQ s t)).map fun p => (t, p)
theorem unlike_is (s : Vbenag.State) : Vbenag.unlike s = (List.range s.terms).flatMap (unlikeAt s) := by
  unfold Vbenag.unlike unlikeAt
  congr 1
  funext t
  split
  · rfl
  · congr 1
    refine List.filter_congr fun p hp => ?_
    unfold unlikeQ
    rw [found_at (List.mem_range.mp hp)]
theorem unlikeAt_len {s : Vbenag.State} (h : Wf s) (t : Nat) : (unlikeAt s t).length ≤ 40 := by
  unfold unlikeAt
  split
  · exact Nat.zero_le _
  · rw [List.length_map]
    have := List.length_filter_le (unlikeQ s t) (List.range s.places)
    rw [List.length_range] at this
    exact Nat.le_trans this h.p40
theorem unlike_len {s : Vbenag.State} (h : Wf s) : ∀ l : List Nat, (l.flatMap (unlikeAt s)).length ≤ 40 * l.length
  | [] => Nat.le_refl _
  | t :: l => by
    rw [List.flatMap_cons, List.length_append, List.length_cons]
    have := unlike_len h l
    have := unlikeAt_len h t
    omega
section
variable {P : Program} {w : World} {K : PySem.W.Frag} {mg : Str → Option Value} {base : Heap} {C tc pc : Addr}
def spCounts (C : Addr) : Sp := fun vs H Q _ => ∃ (a : Addr) (y : Lay) (s : Vbenag.State), vs = [.ref a] ∧ FileAt C H a y s ∧ CallEnd C a y H Q (Vbenag.step s [[19]])
theorem sc_counts : FnScope ["card_file"] ["card_file"] (defScope s_how_many_of_each) := ⟨rfl, rfl, rfl, by decide +kernel, rfl, by decide +kernel, by decide +kernel⟩
theorem ok_counts {f : Addr} {fd : FuncData} (F : Fun K "how_many_of_each" "how_many_of_each" s_how_many_of_each f fd) (T : Txt K mg C tc pc)
    (MI : MOk P w K mg base C "item_count" 1 ["self"] (spItemCount C)) : FnOk P w K mg base CX0 2 f fd ["card_file"] (spCounts C) := by
  refine F.ok sc_counts (fun vs H Q E h => ?_) (fun cdv A outer s H vs Q E hr h => ?_)
  · obtain ⟨a, y, s, rfl, _⟩ := h
    rfl
  · obtain ⟨a, y, st, rfl, hF, k⟩ := h
    refine ⟨_, pss_one (ps_ret (pe_lst (pa_cons (pe_fld (pv 0) rfl) (pa_cons (pe_fld (pv 0) rfl) (pa_cons (pe_m0 MI T.cl hr (pv 0)) (pa_cons (pe_callB call_lenD (by rfl) T.len PySem.boot_len (pa_cons (pe_fld (pv 0) rfl) pa_nil)) pa_nil)))))), ?_⟩
    replace k : CallEnd C a y H Q (st, VbenCore.ints [st.terms, st.places, (st.items.countP fun x => x.isSome), st.lost.length]) := k
    refine ⟨_, rfl, a, C, _, _, _, rfl, hF.obj, T.cl, T.nT, rfl, _, rfl, a, C, _, _, _, rfl, hF.obj, T.cl, T.nP, rfl, _, rfl, a, _, _, rfl, hF.obj, rfl, a, y, st, rfl, hF, fun H1 s1 => ?_⟩
    have hF1 := hF.same s1
    refine ⟨_, rfl, a, C, _, _, _, rfl, hF1.obj, T.cl, T.nL, rfl, y.hl, _, rfl, hF1.lost, (by show 4 ≤ sizeLine; decide), fun p1 n1 => ?_⟩
    refine k.same hF (s1.trans (same_new n1)) (s1.free n1) ?_
    rw [upd_same, lost_len hF]
    rfl
def spClear (C : Addr) : Sp := fun vs H Q _ => ∃ (a : Addr) (y : Lay) (s : Vbenag.State), vs = [.ref a] ∧ FileAt C H a y s ∧ CallEnd C a y H Q (Vbenag.step s [[20]])
theorem sc_clear : FnScope ["card_file"] ["card_file"] (defScope s_clear_file) := ⟨rfl, rfl, rfl, by decide +kernel, rfl, by decide +kernel, by decide +kernel⟩
theorem ok_clear {f : Addr} {fd : FuncData} (F : Fun K "clear_file" "clear_file" s_clear_file f fd) (T : Txt K mg C tc pc)
    (MB : MOk P w K mg base C "begin" 3 ["self"] (spBegin C)) : FnOk P w K mg base CX0 4 f fd ["card_file"] (spClear C) := by
  refine F.ok sc_clear (fun vs H Q E h => ?_) (fun cdv A outer s H vs Q E hr h => ?_)
  · obtain ⟨a, y, s, rfl, _⟩ := h
    rfl
  · obtain ⟨a, y, st, rfl, hF, k⟩ := h
    refine ⟨_, pss_cons (ps_expr (pe_m0 MB T.cl hr (pv 0))) (pss_one (ps_ret (pe_lst (pa_cons pe_int pa_nil)))), ?_⟩
    replace k : CallEnd C a y H Q (Vbenag.start, [0]) := k
    refine ⟨_, rfl, a, _, _, rfl, hF.obj, rfl, a, y.dx, _, rfl, hF.obj, .inr ⟨_, _, _, _, _, _, rfl⟩, fun H' y' h1 h2 h3 => ?_⟩
    refine ⟨(by show 1 ≤ sizeLine; decide), fun p1 n1 => ?_⟩
    refine k _ y' p1 (h1.same (same_new n1)) ⟨fun b o e n => ?_, fun b hb => ?_, fun b o e => ?_, fun b hb => ?_⟩ ?_ (h1.free n1) upd_same
    · exact same_new n1 _ _ (h2 b o e fun z => n (by rw [z]; exact own_self))
    · rcases h3 b (List.mem_append_left _ hb) with z | z
      · exact .inl (by rw [z]; exact own_self)
      · exact .inr z
    · by_cases z : b = a
      · exact ⟨_, by rw [z]; exact same_new n1 _ _ h1.obj⟩
      · exact ⟨o, same_new n1 _ _ (h2 b o e z)⟩
    · rcases h3 b hb with z | z
      · exact .inl (by rw [z]; exact List.mem_append_left _ own_self)
      · exact .inr z
    · cases q : H p1 with
      | none => rfl
      | some o =>
        by_cases z : p1 = a
        · rw [z, h1.obj] at n1; cases n1
        · rw [h2 p1 o q z] at n1; cases n1
def spAnew (C : Addr) : Sp := fun vs H Q _ => ∃ (a : Addr) (y : Lay) (s : Vbenag.State) (t : Int), vs = [.ref a, .int t] ∧ FileAt C H a y s ∧ CallEnd C a y H Q (Vbenag.step s [[13, t]])
theorem sc_anew : FnScope ["card_file", "term", "place"] ["card_file", "term"] (defScope s_holes_by_item_cards) := ⟨rfl, rfl, rfl, by decide +kernel, rfl, by decide +kernel, by decide +kernel⟩
theorem ok_anew {f : Addr} {fd : FuncData} (F : Fun K "holes_by_item_cards" "holes_by_item_cards" s_holes_by_item_cards f fd) (T : Txt K mg C tc pc)
    (MT : MOk P w K mg base C "is_term" 1 ["self", "number"] (spIsTerm C)) (MP : MOk P w K mg base C "places" 1 ["self"] (spCards C placesOf)) (MI : MOk P w K mg base C "item_has" 1 ["self", "place", "term"] (spItemHas C))
    (GN : GOk P w K mg base "counted" 1 ["numbers"] spCounted) : FnOk P w K mg base CX0 2 f fd ["card_file", "term"] (spAnew C) := by
  refine F.ok sc_anew (fun vs H Q E h => ?_) (fun cdv A outer s H vs Q E hr h => ?_)
  · obtain ⟨a, y, s, c, rfl, _⟩ := h
    rfl
  · obtain ⟨a, y, st, t, rfl, hF, k⟩ := h
    obtain ⟨_, g1⟩ := T.i1
    have nd := sc_anew.nd
    refine ⟨_, pss_cons (ps_if (pt_not (pt_val (pe_m MT T.cl hr (pv 0) (pa_cons (pv 1) pa_nil)))) (pss_one (ps_ret (pe_lst (pa_cons (pe_gint rfl g1) pa_nil)))) pss_nil)
      (pss_one (ps_ret (pe_g GN hr rfl (pa_cons (pe_lc (own := [("place", 2)]) rfl nd (pi_list (pe_m0 MP T.cl hr (pv 0))) (blkOk_by rfl)
        (fun s H C cl fp => pg_name (i := 2) nd rfl (Or.inl rfl) (Or.inr rfl)) (fun s H C' cl fp => pts_one (pt_val (pe_m MI T.cl hr (pv 0) (pa_cons (pv 2) (pa_cons (pv 1) pa_nil)))))
        (fun s H C cl fp => pv 2)) pa_nil)))), ?_⟩
    rw [step_in (d := .anew t) rfl] at k
    have hin : Vbenag.inRange st (.anew t) = Vbenag.isTerm st t := rfl
    rw [hin] at k
    refine ⟨_, rfl, a, _, _, rfl, hF.obj, rfl, _, rfl, a, y, st, t, rfl, hF, _, rfl, ?_⟩
    by_cases hc : Vbenag.isTerm st t = true
    · rw [hc]
      rw [hc] at k
      obtain ⟨et, mt⟩ := term_nat hc
      replace k : CallEnd C a y H Q (st, Vbenag.listRow (Vbenag.found st [t.toNat])) := k
      generalize t.toNat = q at et mt k
      subst et
      refine iteF (tNext_i (tRet_i (tCall1_i (tLc_src ?_))))
      refine ⟨_, rfl, a, _, _, rfl, hF.obj, rfl, a, y, st, rfl, hF, fun H1 D1 s1 n1 e1 => ?_⟩
      refine lcL (K := K) (placesOf st) nV (foundAt st [q]) nV (SqL.of e1) ⟨places_lt hF.wf, fun p hp H2 R s2 z => ?_, fun p hp _ H2 R s2 z => ?_, fun D H2 hD s2 e => ?_⟩
      · have hF2 := hF.same (s1.trans s2)
        exact ⟨_, rfl, a, _, _, rfl, hF2.obj, rfl, _, rfl, _, rfl, a, y, st, p, q, rfl, hF2, List.mem_range.mp hp, _, rfl, z H2 (Same.refl _)⟩
      · exact ⟨_, rfl, z H2 (Same.refl _)⟩
      · have e : H2 D = some (.lst ((Vbenag.found st [q]).map nV)) := e
        have hfl := found_len hF.wf [q]
        refine ⟨D, _, rfl, e, by rw [List.length_map]; omega, fun H3 D3 s3 n3 e3 => ?_⟩
        have s13 := s1.trans s2
        refine k.same hF (s13.trans s3) (s13.free n3) ?_
        rw [e3, listRow_V, List.length_map]
    · rw [Bool.eq_false_iff.mpr hc]
      rw [Bool.eq_false_iff.mpr hc] at k
      exact ⟨(by show 1 ≤ sizeLine; decide), fun p1 n1 => k.same hF (same_new n1) n1 upd_same⟩
def spUnlike (C : Addr) : Sp := fun vs H Q _ => ∃ (a : Addr) (y : Lay) (s : Vbenag.State), vs = [.ref a] ∧ FileAt C H a y s ∧ CallEnd C a y H Q (Vbenag.step s [[12]])
theorem sc_unlike : FnScope ["card_file", "pairs", "term", "card", "place"] ["card_file"] (defScope s_holes_unlike_item_cards) := ⟨rfl, rfl, rfl, by decide +kernel, rfl, by decide +kernel, by decide +kernel⟩
theorem ok_unlike {f : Addr} {fd : FuncData} (F : Fun K "holes_unlike_item_cards" "holes_unlike_item_cards" s_holes_unlike_item_cards f fd) (T : Txt K mg C tc pc)
    (MT : MOk P w K mg base C "terms" 1 ["self"] (spCards C termsOf)) (MP : MOk P w K mg base C "places" 1 ["self"] (spCards C placesOf)) (GO : GOk P w K mg base "card_of" 1 ["term"] spCardOf) (ML : MOk P w K mg base C "is_lost" 1 ["self", "card"] (spIsLost C))
    (MH : MOk P w K mg base C "has_hole" 1 ["self", "card", "place"] (spHasHole C)) (MI : MOk P w K mg base C "item_has" 1 ["self", "place", "term"] (spItemHas C)) (GP : GOk P w K mg base "paired" 1 ["pairs"] spPaired) :
    FnOk P w K mg base CX0 2 f fd ["card_file"] (spUnlike C) := by
  refine F.ok sc_unlike (fun vs H Q E h => ?_) (fun cdv A outer s H vs Q E hr h => ?_)
  · obtain ⟨a, y, s, rfl, _⟩ := h
    rfl
  · obtain ⟨a, y, st, rfl, hF, k⟩ := h
    have nd := sc_unlike.nd
    refine ⟨_, pss_cons (ps_set (i := 1) nd rfl (Or.inl rfl) (pe_lst pa_nil))
      (pss_cons (ps_for PassesOwn.never rfl (pi_list (pe_m0 MT T.cl hr (pv 0))) (pg_name (i := 2) nd rfl (Or.inl rfl))
        (pss_cons (ps_set (i := 3) nd rfl (Or.inl rfl) (pe_g GO hr rfl (pa_cons (pv 2) pa_nil)))
        (pss_cons (ps_if (pt_val (pe_m ML T.cl hr (pv 0) (pa_cons (pv 3) pa_nil))) (pss_one ps_continue) pss_nil)
        (pss_one (ps_for PassesOwn.never rfl (pi_list (pe_m0 MP T.cl hr (pv 0))) (pg_name (i := 4) nd rfl (Or.inl rfl))
          (pss_one (ps_if (pt_cmpR op_ne (pe_m MH T.cl hr (pv 0) (pa_cons (pv 3) (pa_cons (pv 4) pa_nil))) (pe_m MI T.cl hr (pv 0) (pa_cons (pv 4) (pa_cons (pv 2) pa_nil))) (nomark _))
            (pss_one (ps_expr (pe_bm PySem.F.plainAttrs_list PySem.F.slot_list_append PySem.F.type_list_append mt_append (pv 1) (pa_cons (pe_tup (pa_cons (pv 2) (pa_cons (pv 4) pa_nil))) pa_nil)))) pss_nil)))))))
      (pss_one (ps_ret (pe_g GP hr rfl (pa_cons (pv 1) pa_nil))))), ?_⟩
    replace k : CallEnd C a y H Q (st, Vbenag.pairsRow (Vbenag.unlike st)) := k
    rw [unlike_is] at k
    have h11 := hF.wf.t11
    have h40 := hF.wf.p40
    refine ⟨(by show 0 ≤ sizeLine; decide), fun S nS => ?_⟩
    have hFS := hF.same (same_new nS (o := .lst []))
    refine ⟨_, rfl, a, _, _, rfl, hFS.obj, rfl, a, y, st, rfl, hFS, fun HT DT sT nT eT => ?_⟩
    have eS0 : upd H S (.lst []) S = some (.lst []) := upd_same
    have DTS : DT ≠ S := fun z => by rw [z, eS0] at nT; cases nT
    refine ⟨DT, rfl, ⟨_, SqL.of eT⟩, for_list (K := K) (a := DT) (xs := (termsOf st).map nV) (fun i σ H' => ∃ (v2 v3 v4 : Option V) (zs : List V), σ = [some (.ref a), some (.ref S), v2, v3, v4] ∧ Same H H' ∧ H' DT = some (.lst ((termsOf st).map nV)) ∧ H' S = some (.lst zs) ∧
        Each ElP (((List.range st.terms).take i).flatMap (unlikeAt st)) zs H')
      ⟨none, none, none, [], rfl, (same_new nS).trans sT, eT, sT _ _ eS0, Each.nil⟩ (fun i σ H' _ ⟨_, _, _, _, _, _, e, _⟩ => SqL.of e) ?_ ?_⟩
    · rintro i x σ H' hix ⟨v2, v3, v4, zs, rfl, sH, eDT, eS, ez⟩
      obtain ⟨ti, hti, rfl⟩ := get_map hix
      obtain ⟨hi, rfl⟩ := range_get hti
      have hFi := hF.same sH
      have hnext : ((List.range st.terms).take (i + 1)).flatMap (unlikeAt st) = ((List.range st.terms).take i).flatMap (unlikeAt st) ++ unlikeAt st i := by
        rw [range_take hi, List.flatMap_append, List.flatMap_cons, List.flatMap_nil, List.append_nil]
      refine ⟨_, rfl, i, rfl, by omega, ?_⟩
      refine ⟨_, rfl, a, _, _, rfl, hFi.obj, rfl, _, rfl, a, y, st, Vbenag.cardOf i, rfl, hFi, _, rfl, ?_⟩
      by_cases hl : st.lost.contains (Vbenag.cardOf i) = true
      · rw [hl]
        refine iteT ⟨_, _, _, zs, rfl, sH, eDT, eS, ?_⟩
        rw [hnext, show unlikeAt st i = [] by unfold unlikeAt; rw [if_pos hl], List.append_nil]
        exact ez
      · rw [Bool.eq_false_iff.mpr hl]
        refine iteF ⟨_, rfl, a, _, _, rfl, hFi.obj, rfl, a, y, st, rfl, hFi, fun HP DP sP nP eP => ?_⟩
        have DPS : DP ≠ S := fun z => by rw [z, eS] at nP; cases nP
        have eU : unlikeAt st i = ((List.range st.places).filter (unlikeQ st i)).map fun p => (i, p) := by unfold unlikeAt; rw [if_neg hl]
        have hzl : (((List.range st.terms).take i).flatMap (unlikeAt st)).length ≤ 440 := by
          refine Nat.le_trans (unlike_len hF.wf _) ?_
          rw [List.length_take, List.length_range]
          omega
        refine ⟨DP, rfl, ⟨_, SqL.of eP⟩, for_list (K := K) (a := DP) (xs := (placesOf st).map nV) (fun j σ H' => ∃ (v4 : Option V) (zs : List V), σ = [some (.ref a), some (.ref S), some (nV i), some (nV (Vbenag.cardOf i)), v4] ∧ Same H H' ∧ H' DT = some (.lst ((termsOf st).map nV)) ∧ H' DP = some (.lst ((placesOf st).map nV)) ∧ H' S = some (.lst zs) ∧
            Each ElP (((List.range st.terms).take i).flatMap (unlikeAt st) ++ (((List.range st.places).take j).filter (unlikeQ st i)).map fun p => (i, p)) zs H')
          ⟨_, zs, rfl, sH.trans sP, sP _ _ eDT, eP, sP _ _ eS, by rw [List.take_zero, List.filter_nil, List.map_nil, List.append_nil]; exact ez.imp fun x v h => h.mono _ _ _ _ sP⟩ (fun i σ H' _ ⟨_, _, _, _, _, e, _⟩ => SqL.of e) ?_ ?_⟩
        · rintro j x σ H2 hjx ⟨w4, zs, rfl, s2, eDT2, eDP2, eS2, ez2⟩
          obtain ⟨pj, hpj, rfl⟩ := get_map hjx
          obtain ⟨hj, rfl⟩ := range_get hpj
          have hF2 := hF.same s2
          refine ⟨_, rfl, a, _, _, rfl, hF2.obj, rfl, _, rfl, _, rfl, a, y, st, Vbenag.cardOf i, j, rfl, hF2, card_used hF.wf hi, hj, _, rfl, a, _, _, rfl, hF2.obj, rfl, _, rfl, _, rfl, a, y, st, j, i, rfl, hF2, hj, rfl, _, rfl, ?_⟩
          have e1 : (!decide (V.bl (Vbenag.isHole st (Vbenag.cardOf i) j) = V.bl (foundAt st [i] j))) = unlikeQ st i j := by
            unfold unlikeQ
            cases Vbenag.isHole st (Vbenag.cardOf i) j <;> cases foundAt st [i] j <;> rfl
          rw [e1]
          have e2 : ((List.range st.places).take (j + 1)).filter (unlikeQ st i) = _ := range_take_filter (unlikeQ st i) hj
          refine ite2 (fun q => ?_) fun q => ?_
          · have hz2 : zs.length ≤ 480 := by
              rw [ez2.1, List.length_append, List.length_map]
              have := range_take_len (n := st.places) (i := j) (unlikeQ st i)
              omega
            refine ⟨_, rfl, .inl ⟨rfl, _, SqL.of eS2⟩, _, rfl, _, rfl, (by show 2 ≤ sizeLine; decide), fun u nu => ?_⟩
            have su := same_new nu (o := .tup [nV i, nV j])
            refine ⟨S, _, _, rfl, rfl, su _ _ eS2, small1000 (by omega), ?_⟩
            refine ⟨_, zs ++ [.ref u], rfl, same_upd (s2.trans su) nS, by rw [upd_ne DTS]; exact su _ _ eDT2, by rw [upd_ne DPS]; exact su _ _ eDP2, upd_same, ?_⟩
            rw [e2, if_pos q, List.map_append, ← List.append_assoc]
            refine (ez2.imp fun x v h => (h.mono _ _ _ _ su).upd (su _ _ eS2)).snoc ?_
            exact ElP.upd (D := S) ⟨u, rfl, upd_same⟩ (su _ _ eS2)
          · refine ⟨_, zs, rfl, s2, eDT2, eDP2, eS2, ?_⟩
            rw [e2, if_neg q, List.append_nil]
            exact ez2
        · rintro σ H2 ⟨w4, zs, rfl, s2, eDT2, eDP2, eS2, ez2⟩
          have hlen : ((placesOf st).map nV).length = st.places := by rw [List.length_map]; exact List.length_range
          rw [hlen, range_all st.places, ← eU, ← hnext] at ez2
          exact ⟨_, _, _, zs, rfl, s2, eDT2, eS2, ez2⟩
    · rintro σ H' ⟨v2, v3, v4, zs, rfl, sH, eDT, eS, ez⟩
      have hlen : ((termsOf st).map nV).length = st.terms := by rw [List.length_map]; exact List.length_range
      rw [hlen, List.take_of_length_le (by rw [List.length_range]; exact Nat.le_refl _)] at ez
      have hul := unlike_len hF.wf (List.range st.terms)
      rw [List.length_range] at hul
      refine ⟨_, rfl, S, zs, _, rfl, eS, ez, by omega, fun H2 D2 s2 n2 e2 => ?_⟩
      exact k.same hF (sH.trans s2) (sH.free n2) e2
end
end Hc
set_option Elab.async false
set_option linter.all false
set_option maxRecDepth 100000
set_option maxHeartbeats 4000000
namespace Hc
open PySem PySem.Spec PyProof.Rows L2
theorem places_nat {s : Vbenag.State} {ns : List Int} (h : (Vbenag.rising ns && ns.all (Vbenag.isPlace s)) = true) : ns.map V.int = (ns.map Int.toNat).map nV ∧ Inc (ns.map Int.toNat) ∧ ∀ t ∈ ns.map Int.toNat, t < s.places :=
  terms_nat (s := { s with terms := s.places }) (ns := ns) h
theorem common_len {s : Vbenag.State} (h : Wf s) (ps : List Nat) : (Vbenag.common s ps).length ≤ 11 := by
  have := List.length_filter_le (fun t => ps.all fun p => Vbenag.isHole s (Vbenag.cardOf t) p) (List.range s.terms)
  rw [List.length_range] at this
  exact Nat.le_trans this h.t11
theorem tSetLc_i {ti : TI} {g : TG} {tt : TT} {te : TE} {vs : List Nat} {i : Nat} {u : TS} {D : Ends} {σ : L2.St} {H : Hp} (h : tLc ti g tt te vs σ H fun x H1 => u D (σ.set i (some x)) H1) : tSeq (tAsg (tLc ti g tt te vs) (gName i)) u D σ H := h
section
variable {P : Program} {w : World} {K : PySem.W.Frag} {mg : Str → Option Value} {base : Heap} {C tc pc : Addr}
def spCommon (K : PySem.W.Frag) (C : Addr) : Sp := fun vs H Q _ => ∃ (a b : Addr) (y : Lay) (s : Vbenag.State) (ps : List Nat), vs = [.ref a, .ref b] ∧ FileAt C H a y s ∧ SqL K H b (ps.map nV) ∧ ps.length < 1000 ∧ (∀ p ∈ ps, p < s.places) ∧
  ∀ H' D, Same H H' → H D = none → H' D = some (.lst ((Vbenag.common s ps).map nV)) → Q (.ref D) H'
theorem sc_common : FnScope ["card_file", "places", "term"] ["card_file", "places"] (defScope s_common_terms) := ⟨rfl, rfl, rfl, by decide +kernel, rfl, by decide +kernel, by decide +kernel⟩
theorem ok_common {f : Addr} {fd : FuncData} (F : Fun K "common_terms" "common_terms" s_common_terms f fd) (T : Txt K mg C tc pc)
    (MT : MOk P w K mg base C "terms" 1 ["self"] (spCards C termsOf)) (GS : GOk P w K mg base "still_shining" 2 ["card_file", "places", "term"] (spStill K C)) : FnOk P w K mg base CX0 3 f fd ["card_file", "places"] (spCommon K C) := by
  refine F.ok sc_common (fun vs H Q E h => ?_) (fun cdv A outer s H vs Q E hr h => ?_)
  · obtain ⟨a, b, y, s, ps, rfl, _⟩ := h
    rfl
  · obtain ⟨a, b, y, st, ps, rfl, hF, hb, hl, hp, k⟩ := h
    have nd := sc_common.nd
    have hr1 : Room 1 _ := hr.mono (by decide)
    refine ⟨_, pss_one (ps_ret (pe_lc (own := [("term", 2)]) rfl nd (pi_list (pe_m0 MT T.cl hr1 (pv 0))) (blkOk_by rfl)
      (fun s H C cl fp => pg_name (i := 2) nd rfl (Or.inl rfl) (Or.inr rfl))
      (fun s H C' cl fp => pts_one (pt_cmpR (r := rEqD K) (op_eqD hr.units) (pe_g GS hr rfl (pa_cons (pv 0) (pa_cons (pv 1) (pa_cons (pv 2) pa_nil)))) (pv 1) (nomark _)))
      (fun s H C cl fp => pv 2))), ?_⟩
    refine tRet_i (tLc_src ?_)
    refine ⟨_, rfl, a, _, _, rfl, hF.obj, rfl, a, y, st, rfl, hF, fun H1 D1 s1 n1 e1 => ?_⟩
    refine lcL (K := K) (termsOf st) nV (fun t => ps.all fun p => Vbenag.isHole st (Vbenag.cardOf t) p) nV (SqL.of e1) ⟨terms_lt hF.wf, fun t ht H2 R s2 q => ?_, fun t ht _ H2 R s2 q => ?_, fun D H2 hD s2 e => k H2 D (s1.trans s2) (s1.free hD) e⟩
    · have s12 := s1.trans s2
      have hF2 := hF.same s12
      refine ⟨_, rfl, _, rfl, _, rfl, a, b, y, st, ps, t, rfl, hF2, .inl (s12.seq hb), hl, hp, List.mem_range.mp ht, fun H3 D3 s3 n3 e3 => ?_⟩
      refine ⟨_, rfl, eqL_i (SqL.of e3) ((s12.trans s3).seq hb) ⟨_, rfl, ?_⟩⟩
      rw [filter_eq_all]
      exact q H3 s3
    · exact ⟨_, rfl, q H2 (Same.refl _)⟩
def spClosed (K : PySem.W.Frag) (C : Addr) : Sp := fun vs H Q _ => ∃ (a b : Addr) (y : Lay) (s : Vbenag.State) (ts : List Nat), vs = [.ref a, .ref b] ∧ FileAt C H a y s ∧ SqL K H b (ts.map nV) ∧ (∀ t ∈ ts, t < s.terms) ∧
  ∀ H' D, Same H H' → H D = none → H' D = some (.lst ((Vbenag.closed s ts).map nV)) → Q (.ref D) H'
theorem sc_closed : FnScope ["card_file", "terms"] ["card_file", "terms"] (defScope s_closed_terms) := ⟨rfl, rfl, rfl, by decide +kernel, rfl, by decide +kernel, by decide +kernel⟩
theorem ok_closed {f : Addr} {fd : FuncData} (F : Fun K "closed_terms" "closed_terms" s_closed_terms f fd) (T : Txt K mg C tc pc)
    (GC : GOk P w K mg base "common_terms" 3 ["card_file", "places"] (spCommon K C)) (GS : GOk P w K mg base "shining_places" 3 ["card_file", "terms"] (spShining K C)) : FnOk P w K mg base CX0 4 f fd ["card_file", "terms"] (spClosed K C) := by
  refine F.ok sc_closed (fun vs H Q E h => ?_) (fun cdv A outer s H vs Q E hr h => ?_)
  · obtain ⟨a, b, y, s, ts, rfl, _⟩ := h
    rfl
  · obtain ⟨a, b, y, st, ts, rfl, hF, hb, ht, k⟩ := h
    refine ⟨_, pss_one (ps_ret (pe_g GC hr rfl (pa_cons (pv 0) (pa_cons (pe_g GS hr rfl (pa_cons (pv 0) (pa_cons (pv 1) pa_nil))) pa_nil)))), ?_⟩
    refine ⟨_, rfl, _, rfl, _, rfl, a, b, y, st, ts, rfl, hF, hb, ht, fun H1 D1 s1 n1 e1 => ?_⟩
    have hll := light_len hF.wf ts
    exact ⟨a, D1, y, st, Vbenag.light st ts, rfl, hF.same s1, SqL.of e1, by omega, fun p hp => light_lt hp, fun H2 D2 s2 n2 e2 => k H2 D2 (s1.trans s2) (s1.free n2) e2⟩
def spCall14 (K : PySem.W.Frag) (C : Addr) (n : Int) : Sp := fun vs H Q _ => ∃ (a b : Addr) (y : Lay) (s : Vbenag.State) (ns : List Int), vs = [.ref a, .ref b] ∧ FileAt C H a y s ∧ SqL K H b (ns.map V.int) ∧ CallEnd C a y H Q (Vbenag.step s [[n], ns])
theorem sc_c14 : FnScope ["card_file", "places"] ["card_file", "places"] (defScope s_terms_in_common) := ⟨rfl, rfl, rfl, by decide +kernel, rfl, by decide +kernel, by decide +kernel⟩
theorem ok_c14 {f : Addr} {fd : FuncData} (F : Fun K "terms_in_common" "terms_in_common" s_terms_in_common f fd) (T : Txt K mg C tc pc)
    (MA : MOk P w K mg base C "are_places" 2 ["self", "numbers"] (spArePlaces K C)) (ML : MOk P w K mg base C "lacks_a_term" 2 ["self"] (spLacks C)) (GC : GOk P w K mg base "common_terms" 3 ["card_file", "places"] (spCommon K C)) (GN : GOk P w K mg base "counted" 1 ["numbers"] spCounted) :
    FnOk P w K mg base CX0 4 f fd ["card_file", "places"] (spCall14 K C 14) := by
  refine F.ok sc_c14 (fun vs H Q E h => ?_) (fun cdv A outer s H vs Q E hr h => ?_)
  · obtain ⟨a, b, y, s, ns, rfl, _⟩ := h
    rfl
  · obtain ⟨a, b, y, st, ns, rfl, hF, hb, k⟩ := h
    obtain ⟨_, g1⟩ := T.i1
    obtain ⟨_, g5⟩ := T.i5
    have hr1 : Room 1 _ := hr.mono (by decide)
    have hr2 : Room 2 _ := hr.mono (by decide)
    refine ⟨_, pss_cons (ps_if (pt_not (pt_val (pe_m MA T.cl hr2 (pv 0) (pa_cons (pv 1) pa_nil)))) (pss_one (ps_ret (pe_lst (pa_cons (pe_gint rfl g1) pa_nil)))) pss_nil)
      (pss_cons (ps_if (pt_val (pe_m0 ML T.cl hr2 (pv 0))) (pss_one (ps_ret (pe_lst (pa_cons (pe_gint rfl g5) pa_nil)))) pss_nil)
      (pss_one (ps_ret (pe_g GN hr1 rfl (pa_cons (pe_g GC hr rfl (pa_cons (pv 0) (pa_cons (pv 1) pa_nil))) pa_nil))))), ?_⟩
    rw [step_in (d := .common ns) rfl] at k
    have hin : Vbenag.inRange st (.common ns) = (Vbenag.rising ns && ns.all (Vbenag.isPlace st)) := rfl
    rw [hin] at k
    refine ⟨_, rfl, a, _, _, rfl, hF.obj, rfl, _, rfl, a, b, y, st, ns, rfl, hF, hb, _, rfl, ?_⟩
    by_cases ht : (Vbenag.rising ns && ns.all (Vbenag.isPlace st)) = true
    · rw [ht]
      rw [ht] at k
      obtain ⟨et, ti, tl⟩ := places_nat ht
      replace k : CallEnd C a y H Q (if Vbenag.lacks st (Vbenag.allTerms st) = true then Vbenag.no st 5 else (st, Vbenag.listRow (Vbenag.common st (ns.map Int.toNat)))) := k
      generalize ns.map Int.toNat = ps at et ti tl k
      rw [et] at hb
      have hl40 := inc_len ti tl
      have p40 := hF.wf.p40
      refine iteF ⟨_, rfl, a, _, _, rfl, hF.obj, rfl, a, y, st, rfl, hF, fun H1 s1 => ⟨_, rfl, ?_⟩⟩
      by_cases hl : Vbenag.lacks st (Vbenag.allTerms st) = true
      · rw [hl]
        rw [if_pos hl] at k
        exact iteT ⟨(by show 1 ≤ sizeLine; decide), fun p1 m1 => k.same hF (s1.trans (same_new m1)) (s1.free m1) upd_same⟩
      · rw [Bool.eq_false_iff.mpr hl]
        rw [if_neg hl] at k
        refine iteF ⟨_, rfl, _, rfl, a, b, y, st, ps, rfl, hF.same s1, s1.seq hb, by omega, tl, fun H3 D3 s3 n3 e3 => ?_⟩
        have hcl := common_len hF.wf ps
        refine ⟨D3, _, rfl, e3, by rw [List.length_map]; omega, fun H4 D4 s4 n4 e4 => ?_⟩
        have s13 := s1.trans s3
        refine k.same hF (s13.trans s4) (s13.free n4) ?_
        rw [e4, List.length_map, listRow_V]
    · rw [Bool.eq_false_iff.mpr ht]
      rw [Bool.eq_false_iff.mpr ht] at k
      exact ⟨(by show 1 ≤ sizeLine; decide), fun p1 n1 => k.same hF (same_new n1) n1 upd_same⟩
theorem sc_c15 : FnScope ["card_file", "terms"] ["card_file", "terms"] (defScope s_terms_closed) := ⟨rfl, rfl, rfl, by decide +kernel, rfl, by decide +kernel, by decide +kernel⟩
theorem ok_c15 {f : Addr} {fd : FuncData} (F : Fun K "terms_closed" "terms_closed" s_terms_closed f fd) (T : Txt K mg C tc pc)
    (MA : MOk P w K mg base C "are_terms" 2 ["self", "numbers"] (spAreTerms K C)) (ML : MOk P w K mg base C "lacks_a_term" 2 ["self"] (spLacks C)) (GC : GOk P w K mg base "closed_terms" 4 ["card_file", "terms"] (spClosed K C)) (GN : GOk P w K mg base "counted" 1 ["numbers"] spCounted) :
    FnOk P w K mg base CX0 5 f fd ["card_file", "terms"] (spCall14 K C 15) := by
  refine F.ok sc_c15 (fun vs H Q E h => ?_) (fun cdv A outer s H vs Q E hr h => ?_)
  · obtain ⟨a, b, y, s, ns, rfl, _⟩ := h
    rfl
  · obtain ⟨a, b, y, st, ns, rfl, hF, hb, k⟩ := h
    obtain ⟨_, g1⟩ := T.i1
    obtain ⟨_, g5⟩ := T.i5
    have hr1 : Room 1 _ := hr.mono (by decide)
    have hr2 : Room 2 _ := hr.mono (by decide)
    refine ⟨_, pss_cons (ps_if (pt_not (pt_val (pe_m MA T.cl hr2 (pv 0) (pa_cons (pv 1) pa_nil)))) (pss_one (ps_ret (pe_lst (pa_cons (pe_gint rfl g1) pa_nil)))) pss_nil)
      (pss_cons (ps_if (pt_val (pe_m0 ML T.cl hr2 (pv 0))) (pss_one (ps_ret (pe_lst (pa_cons (pe_gint rfl g5) pa_nil)))) pss_nil)
      (pss_one (ps_ret (pe_g GN hr1 rfl (pa_cons (pe_g GC hr rfl (pa_cons (pv 0) (pa_cons (pv 1) pa_nil))) pa_nil))))), ?_⟩
    rw [step_in (d := .closed ns) rfl] at k
    have hin : Vbenag.inRange st (.closed ns) = Vbenag.isTerms st ns := rfl
    rw [hin] at k
    refine ⟨_, rfl, a, _, _, rfl, hF.obj, rfl, _, rfl, a, b, y, st, ns, rfl, hF, hb, _, rfl, ?_⟩
    by_cases ht : Vbenag.isTerms st ns = true
    · rw [ht]
      rw [ht] at k
      obtain ⟨et, ti, tl⟩ := terms_nat ht
      replace k : CallEnd C a y H Q (if Vbenag.lacks st (Vbenag.allTerms st) = true then Vbenag.no st 5 else (st, Vbenag.listRow (Vbenag.closed st (ns.map Int.toNat)))) := k
      generalize ns.map Int.toNat = ts at et ti tl k
      rw [et] at hb
      refine iteF ⟨_, rfl, a, _, _, rfl, hF.obj, rfl, a, y, st, rfl, hF, fun H1 s1 => ⟨_, rfl, ?_⟩⟩
      by_cases hl : Vbenag.lacks st (Vbenag.allTerms st) = true
      · rw [hl]
        rw [if_pos hl] at k
        exact iteT ⟨(by show 1 ≤ sizeLine; decide), fun p1 m1 => k.same hF (s1.trans (same_new m1)) (s1.free m1) upd_same⟩
      · rw [Bool.eq_false_iff.mpr hl]
        rw [if_neg hl] at k
        refine iteF ⟨_, rfl, _, rfl, a, b, y, st, ts, rfl, hF.same s1, s1.seq hb, tl, fun H3 D3 s3 n3 e3 => ?_⟩
        have hcl : (Vbenag.closed st ts).length ≤ 11 := common_len hF.wf _
        refine ⟨D3, _, rfl, e3, by rw [List.length_map]; omega, fun H4 D4 s4 n4 e4 => ?_⟩
        have s13 := s1.trans s3
        refine k.same hF (s13.trans s4) (s13.free n4) ?_
        rw [e4, List.length_map, listRow_V]
    · rw [Bool.eq_false_iff.mpr ht]
      rw [Bool.eq_false_iff.mpr ht] at k
      exact ⟨(by show 1 ≤ sizeLine; decide), fun p1 n1 => k.same hF (same_new n1) n1 upd_same⟩
theorem sc_c18 : FnScope ["card_file", "terms", "places", "counts", "term"] ["card_file", "terms"] (defScope s_places_with_one_term_more) := ⟨rfl, rfl, rfl, by decide +kernel, rfl, by decide +kernel, by decide +kernel⟩
theorem ok_c18 {f : Addr} {fd : FuncData} (F : Fun K "places_with_one_term_more" "places_with_one_term_more" s_places_with_one_term_more f fd) (T : Txt K mg C tc pc)
    (MA : MOk P w K mg base C "are_terms" 2 ["self", "numbers"] (spAreTerms K C)) (ML : MOk P w K mg base C "lacks_a_term" 2 ["self"] (spLacks C)) (MT : MOk P w K mg base C "terms" 1 ["self"] (spCards C termsOf))
    (GS : GOk P w K mg base "shining_places" 3 ["card_file", "terms"] (spShining K C)) (GT : GOk P w K mg base "still_shining" 2 ["card_file", "places", "term"] (spStill K C)) :
    FnOk P w K mg base CX0 4 f fd ["card_file", "terms"] (spCall14 K C 18) := by
  refine F.ok sc_c18 (fun vs H Q E h => ?_) (fun cdv A outer s H vs Q E hr h => ?_)
  · obtain ⟨a, b, y, s, ns, rfl, _⟩ := h
    rfl
  · obtain ⟨a, b, y, st, ns, rfl, hF, hb, k⟩ := h
    obtain ⟨_, g1⟩ := T.i1
    obtain ⟨_, g5⟩ := T.i5
    have nd := sc_c18.nd
    have hr1 : Room 1 _ := hr.mono (by decide)
    have hr2 : Room 2 _ := hr.mono (by decide)
    refine ⟨_, pss_cons (ps_if (pt_not (pt_val (pe_m MA T.cl hr2 (pv 0) (pa_cons (pv 1) pa_nil)))) (pss_one (ps_ret (pe_lst (pa_cons (pe_gint rfl g1) pa_nil)))) pss_nil)
      (pss_cons (ps_if (pt_val (pe_m0 ML T.cl hr2 (pv 0))) (pss_one (ps_ret (pe_lst (pa_cons (pe_gint rfl g5) pa_nil)))) pss_nil)
      (pss_cons (ps_set (i := 2) nd rfl (Or.inr rfl) (pe_g GS hr rfl (pa_cons (pv 0) (pa_cons (pv 1) pa_nil))))
      (pss_cons (ps_setLc (i := 3) (own := [("term", 4)]) rfl nd rfl rfl (sw_true rfl rfl rfl rfl) (pi_list (pe_m0 MT T.cl hr1 (pv 0))) (blkOk_by rfl)
        (fun s H C cl fp => pg_name (i := 4) nd rfl (Or.inl rfl) (Or.inr rfl)) (fun s H C' cl fp => pts_nil)
        (fun s H C cl fp => pe_callB (r := fun xs H Q => ∃ p ys, xs = [.ref p] ∧ (SqL K H p ys ∨ SqT K H p ys) ∧ Q (.int ys.length) H) call_len_seq (by rfl) T.len PySem.boot_len (pa_cons (pe_g GT hr2 rfl (pa_cons (pv 0) (pa_cons (pv 2) (pa_cons (pv 4) pa_nil)))) pa_nil)))
      (pss_one (ps_ret (pe_op op_cat (pe_lst (pa_cons (pe_fld (pv 0) rfl) pa_nil)) (pv 3))))))), ?_⟩
    rw [step_in (d := .further ns) rfl] at k
    have hin : Vbenag.inRange st (.further ns) = Vbenag.isTerms st ns := rfl
    rw [hin] at k
    refine ⟨_, rfl, a, _, _, rfl, hF.obj, rfl, _, rfl, a, b, y, st, ns, rfl, hF, hb, _, rfl, ?_⟩
    by_cases ht : Vbenag.isTerms st ns = true
    · rw [ht]
      rw [ht] at k
      obtain ⟨et, ti, tl⟩ := terms_nat ht
      replace k : CallEnd C a y H Q (if Vbenag.lacks st (Vbenag.allTerms st) = true then Vbenag.no st 5 else (st, (st.terms : Int) :: (Vbenag.allTerms st).map fun t => ((Vbenag.light st (ns.map Int.toNat ++ [t])).length : Int))) := k
      generalize ns.map Int.toNat = ts at et ti tl k
      rw [et] at hb
      refine iteF ⟨_, rfl, a, _, _, rfl, hF.obj, rfl, a, y, st, rfl, hF, fun H1 s1 => ⟨_, rfl, ?_⟩⟩
      by_cases hl : Vbenag.lacks st (Vbenag.allTerms st) = true
      · rw [hl]
        rw [if_pos hl] at k
        exact iteT ⟨(by show 1 ≤ sizeLine; decide), fun p1 m1 => k.same hF (s1.trans (same_new m1)) (s1.free m1) upd_same⟩
      · rw [Bool.eq_false_iff.mpr hl]
        rw [if_neg hl] at k
        refine iteF (tNext_i (tSet_i (tCall2_i (tVar_i rfl (tVar_i rfl ?_)))))
        refine ⟨a, b, y, st, ts, rfl, hF.same s1, s1.seq hb, tl, fun H2 D2 s2 n2 e2 => ?_⟩
        have s12 := s1.trans s2
        have hF2 := hF.same s12
        have hll := light_len hF.wf ts
        refine tSetLc_i (tLc_src ?_)
        refine ⟨_, rfl, a, _, _, rfl, hF2.obj, rfl, a, y, st, rfl, hF2, fun H3 D3 s3 n3 e3 => ?_⟩
        refine lcL (K := K) (termsOf st) nV (fun _ => true) (fun t => nV (Vbenag.light st (ts ++ [t])).length) (SqL.of e3) ⟨terms_lt hF.wf, fun t ht H4 R s4 q => q H4 (Same.refl _), fun t ht _ H4 R s4 q => ?_, fun D5 H5 n5 s5 e5 => ?_⟩
        · have s34 := s3.trans s4
          refine ⟨_, rfl, _, rfl, _, rfl, a, D2, y, st, Vbenag.light st ts, t, rfl, hF2.same s34, .inl (SqL.of (s34 _ _ e2)), by omega, fun p hp => light_lt hp, List.mem_range.mp ht, fun H6 D6 s6 n6 e6 => ?_⟩
          refine ⟨D6, _, rfl, .inl (SqL.of e6), ?_⟩
          rw [List.length_map, ← light_snoc]
          exact q H6 s6
        · rw [filter_true] at e5
          have s15 := s12.trans (s3.trans s5)
          have hF5 := hF.same s15
          refine ⟨_, rfl, a, C, _, _, _, rfl, hF5.obj, T.cl, T.nT, rfl, (by show 1 ≤ sizeLine; decide), fun p1 n1 => ?_⟩
          refine ⟨_, rfl, p1, D5, _, _, rfl, rfl, upd_same, (by rw [upd_ne (ne_of_none e5 n1)]; exact e5), ?_, fun p2 m2 => ?_⟩
          · rw [List.length_map, sizeLine_eq]
            have := terms_lt hF.wf
            show 1 + _ ≤ _
            omega
          · refine k.same hF (s15.trans ((same_new n1).trans (same_new m2))) (s15.free ((same_new n1 (o := .lst [.int (st.terms : Int)])).free m2)) ?_
            rw [upd_same]
            show _ = some (HO.lst (V.int (st.terms : Int) :: ((Vbenag.allTerms st).map fun t => ((Vbenag.light st (ts ++ [t])).length : Int)).map V.int))
            rw [List.map_map]
            rfl
    · rw [Bool.eq_false_iff.mpr ht]
      rw [Bool.eq_false_iff.mpr ht] at k
      exact ⟨(by show 1 ≤ sizeLine; decide), fun p1 n1 => k.same hF (same_new n1) n1 upd_same⟩
end
end Hc
set_option Elab.async false
set_option linter.all false
set_option maxRecDepth 100000
set_option maxHeartbeats 4000000
namespace Hc
open PySem PySem.Spec PyProof.Rows L2
theorem FileG.notOwnT {C : Addr} {H : Hp} {a : Addr} {y : Lay} {s : Vbenag.State} {ls : List Nat} (h : FileG C H a y s ls) {b : Addr} {xs : List V} (e : H b = some (.tup xs)) : b ∉ own a y := by
  intro q
  simp only [own, List.mem_cons] at q
  rcases q with z | z | z | z | z
  · exact ne_of e h.obj (by intro z; cases z) z
  · exact ne_of e h.holes (by intro z; cases z) z
  · exact ne_of e h.items (by intro z; cases z) z
  · exact ne_of e h.lost (by intro z; cases z) z
  · obtain ⟨i, hi⟩ := List.getElem?_of_mem z
    have hl : i < (Vbenag.used s).length := by rw [← h.rlen]; exact (List.getElem?_eq_some_iff.mp hi).1
    exact ne_of e (h.row i _ b (List.getElem?_eq_getElem hl) hi) (by intro z; cases z) rfl
theorem hole_punched {p : Nat} : ∀ (L : List Nat) (s : Vbenag.State), Wf s → s.lost = [] → p < s.places → L.Nodup → (∀ c ∈ L, c < 16) → ∀ d x, Vbenag.isHole { s with cards := Vbenag.punched s.cards L p } d x = if x = p ∧ d ∈ L then !Vbenag.isHole s d x else Vbenag.isHole s d x
  | [], s, _, _, _, _, _, d, x => by
    rw [if_neg fun z => List.not_mem_nil z.2]
    rfl
  | c :: L, s, h, hl, hp, hn, h16, d, x => by
    have hn' := List.nodup_cons.mp hn
    have hc := h16 c (List.mem_cons_self ..)
    have h1 : Wf { s with cards := Vbenag.toggled s.cards c p } := h.toggle hp (by rw [hl]; exact List.not_mem_nil)
    have ih := hole_punched L { s with cards := Vbenag.toggled s.cards c p } h1 hl hp hn'.2 (fun e he => h16 e (List.mem_cons_of_mem _ he)) d x
    show Vbenag.isHole { s with cards := Vbenag.punched (Vbenag.toggled s.cards c p) L p } d x = _
    rw [show Vbenag.isHole { s with cards := Vbenag.punched (Vbenag.toggled s.cards c p) L p } d x = _ from ih, hole_toggle h hc]
    by_cases ex : x = p
    · by_cases ed : d = c
      · subst ed
        rw [if_neg (show ¬ (x = p ∧ d ∈ L) from fun z => hn'.1 z.2), if_pos ⟨rfl, ex⟩, if_pos ⟨ex, List.mem_cons_self ..⟩]
      · by_cases em : d ∈ L
        · rw [if_pos ⟨ex, em⟩, if_neg (show ¬ (d = c ∧ x = p) from fun z => ed z.1), if_pos ⟨ex, List.mem_cons_of_mem _ em⟩]
        · rw [if_neg (show ¬ (x = p ∧ d ∈ L) from fun z => em z.2), if_neg (show ¬ (d = c ∧ x = p) from fun z => ed z.1), if_neg (show ¬ (x = p ∧ d ∈ c :: L) from fun z => (List.mem_cons.mp z.2).elim ed em)]
    · rw [if_neg (show ¬ (x = p ∧ d ∈ L) from fun z => ex z.1), if_neg (show ¬ (d = c ∧ x = p) from fun z => ex z.2), if_neg (show ¬ (x = p ∧ d ∈ c :: L) from fun z => ex z.1)]
theorem FileG.swap {C : Addr} {H : Hp} {a : Addr} {y : Lay} {s s' : Vbenag.State} {ls : List Nat} (h : FileG C H a y s ls) (hw : Wf s') (et : s'.terms = s.terms) (ep : s'.places = s.places) (ei : s'.items = s.items) (er : ∀ c ∈ Vbenag.used s, rowV s' c = rowV s c) : FileG C H a y s' ls := by
  have eu : Vbenag.used s' = Vbenag.used s := by rw [used_eq, used_eq, et]
  refine ⟨hw, ?_, ?_, ?_, ?_, fun j d q hj hq => ?_, h.rnd, h.items, ?_, fun p hp => ?_, fun p b hp => ?_, h.lost, h.losP⟩
  · rw [et, ep]; exact h.obj
  · rw [eu]; exact h.cards
  · rw [eu]; exact h.holes
  · rw [eu]; exact h.rlen
  · rw [eu] at hj
    rw [er d (List.mem_of_getElem? hj)]
    exact h.row j d q hj hq
  · rw [ep]; exact h.clen
  · rw [ei]; exact h.cellN p hp
  · rw [ei]; exact h.cellS p b hp
structure Upto (s s' : Vbenag.State) (i : Nat) : Prop where
  t : s'.terms = s.terms
  p : s'.places = s.places
  it : s'.items = s.items
  l : s'.lost = []
  h : ∀ c ∈ Vbenag.used s, ∀ p, p < s.places → Vbenag.isHole s' c p = if p < i then Vbenag.isHole (Vbenag.mended s) c p else Vbenag.isHole s c p
def opened (s : Vbenag.State) : Vbenag.State := { s with lost := [] }
theorem Wf.opened {s : Vbenag.State} (h : Wf s) : Wf (opened s) := ⟨h.t1, h.t11, h.p1, h.p40, h.cl, h.inc, h.lt, List.Pairwise.nil, (fun _ q => nomatch q), Nat.zero_le _, (fun _ q => nomatch q), h.il, h.it⟩
theorem Upto.zero (s : Vbenag.State) : Upto s (opened s) 0 := ⟨rfl, rfl, rfl, rfl, fun c _ p _ => by rw [if_neg (Nat.not_lt_zero _)]; rfl⟩
theorem Upto.skip {s s' : Vbenag.State} (h : Wf s) {i : Nat} (hi : i < s.places) (u : Upto s s' i) (e : only (ways s (Hc.mk (holesAt s i))) = none) : Upto s s' (i + 1) := by
  refine ⟨u.t, u.p, u.it, u.l, fun c hc p hp => ?_⟩
  rw [u.h c hc p hp]
  by_cases z : p = i
  · subst z
    rw [if_neg (Nat.lt_irrefl _), if_pos (Nat.lt_succ_self _), hole_mended h hc hp, e]
  · by_cases w : p < i
    · rw [if_pos w, if_pos (by omega)]
    · rw [if_neg w, if_neg (by omega)]
theorem way_list {s : Vbenag.State} (h : Wf s) {m : Nat} {x : Option Nat × List Nat} (hx : x ∈ ways s m) : (x.1.toList ++ x.2).Nodup ∧ ∀ c ∈ x.1.toList ++ x.2, c ∈ Vbenag.used s := by
  obtain ⟨h1, h2⟩ := ways_in h hx
  have hf : ∀ c ∈ x.2, c ∈ s.lost := fun c hc => h1.subset hc
  have ho : ∀ c ∈ x.1.toList, x.1 = some c := fun c hc => by
    cases e : x.1 with
    | none => rw [e] at hc; cases hc
    | some d => rw [e] at hc; rw [List.mem_singleton.mp hc]
  refine ⟨List.nodup_append.mpr ⟨?_, h1.nodup h.lostI.nodup, fun a ha b hb e => ?_⟩, fun c hc => ?_⟩
  · cases x.1 with
    | none => exact List.nodup_nil
    | some d => exact List.nodup_cons.mpr ⟨List.not_mem_nil, List.nodup_nil⟩
  · subst e
    exact (h2 a (ho a ha)).2 (hf a hb)
  · rcases List.mem_append.mp hc with z | z
    · exact (h2 c (ho c z)).1
    · exact h.lostU c (hf c z)
theorem Upto.step {s s' : Vbenag.State} (h : Wf s) (h' : Wf s') {i : Nat} (hi : i < s.places) (u : Upto s s' i) {x : Option Nat × List Nat} (e : only (ways s (Hc.mk (holesAt s i))) = some x) :
    Upto s { s' with cards := Vbenag.punched s'.cards (x.1.toList ++ x.2) i } (i + 1) := by
  obtain ⟨hn, hu⟩ := way_list h (only_in e)
  obtain ⟨w1, w2⟩ := ways_in h (only_in e)
  refine ⟨u.t, u.p, u.it, u.l, fun c hc p hp => ?_⟩
  rw [hole_punched _ s' h' u.l (by rw [u.p]; exact hi) hn (fun d hd => used_lt (hu d hd)), u.h c hc p hp]
  by_cases z : p = i
  · subst z
    rw [if_neg (Nat.lt_irrefl _), if_pos (Nat.lt_succ_self _), hole_mended h hc hp, e]
    show (if p = p ∧ c ∈ x.1.toList ++ x.2 then !Vbenag.isHole s c p else Vbenag.isHole s c p) = if s.lost.contains c = true then x.2.contains c else (Vbenag.isHole s c p != (x.1 == some c))
    by_cases q : s.lost.contains c = true
    · rw [if_pos q]
      have n0 : Vbenag.isHole s c p = false := by
        unfold Vbenag.isHole
        rw [h.lostE c (List.contains_iff_mem.mp q)]
        rfl
      rw [n0]
      by_cases m : c ∈ x.2
      · rw [if_pos ⟨rfl, List.mem_append_right _ m⟩, List.contains_iff_mem.mpr m]
        rfl
      · rw [if_neg]
        · cases w : x.2.contains c with
          | false => rfl
          | true => exact absurd (List.contains_iff_mem.mp w) m
        · rintro ⟨_, w⟩
          rcases List.mem_append.mp w with w | w
          · cases e1 : x.1 with
            | none => rw [e1] at w; cases w
            | some d =>
              rw [e1] at w
              have := (w2 d e1).2
              rw [← List.mem_singleton.mp w] at this
              exact this (List.contains_iff_mem.mp q)
          · exact m w
    · rw [if_neg q]
      have nm : c ∉ x.2 := fun m => q (List.contains_iff_mem.mpr (w1.subset m))
      cases e1 : x.1 with
      | none =>
        rw [if_neg]
        · show _ = (Vbenag.isHole s c p != false)
          cases Vbenag.isHole s c p <;> rfl
        · rintro ⟨_, w⟩
          exact nm w
      | some d =>
        by_cases ed : d = c
        · subst ed
          rw [if_pos ⟨rfl, List.mem_append_left _ (List.mem_singleton.mpr rfl)⟩]
          have : (some d == some d) = true := beq_iff_eq.mpr rfl
          rw [this]
          cases Vbenag.isHole s d p <;> rfl
        · rw [if_neg]
          · have : (some d == some c) = false := beq_eq_false_iff_ne.mpr fun z => ed (Option.some.inj z)
            rw [this]
            cases Vbenag.isHole s c p <;> rfl
          · rintro ⟨_, w⟩
            rcases List.mem_append.mp w with w | w
            · exact ed (List.mem_singleton.mp w).symm
            · exact nm w
  · rw [if_neg (show ¬ (p = i ∧ c ∈ x.1.toList ++ x.2) from fun w => z w.1)]
    by_cases w : p < i
    · rw [if_pos w, if_pos (by omega)]
    · rw [if_neg w, if_neg (by omega)]
theorem punched_snoc (cards : List (List Nat)) (L : List Nat) (c p : Nat) : Vbenag.punched cards (L ++ [c]) p = Vbenag.toggled (Vbenag.punched cards L p) c p := by
  unfold Vbenag.punched
  rw [List.foldl_append]
  rfl
section
variable {P : Program} {w : World} {K : PySem.W.Frag} {mg : Str → Option Value} {base : Heap} {C tc pc : Addr}
def spMendPlace (C : Addr) : Sp := fun vs H Q _ => ∃ (a t b : Addr) (y : Lay) (s : Vbenag.State) (ls : List Nat) (p : Nat) (o : Option Nat) (f : List Nat), vs = [.ref a, nV p, .ref t] ∧ FileG C H a y s ls ∧ s.lost = [] ∧ p < s.places ∧ H t = some (.tup [optV o, .ref b]) ∧ H b = some (.lst (f.map nV)) ∧
  (∀ c ∈ o.toList ++ f, c ∈ Vbenag.used s) ∧ ∀ H', FileG C H' a y { s with cards := Vbenag.punched s.cards (o.toList ++ f) p } ls → Chg a y y H H' → Q .non H'
theorem sc_mend_place : FnScope ["card_file", "place", "way", "card"] ["card_file", "place", "way"] (defScope s_mend_place) := ⟨rfl, rfl, rfl, by decide +kernel, rfl, by decide +kernel, by decide +kernel⟩
theorem ok_mend_place {f : Addr} {fd : FuncData} (F : Fun K "mend_place" "mend_place" s_mend_place f fd) (T : Txt K mg C tc pc)
    (MT : MOk P w K mg base C "turn_hole" 1 ["self", "card", "place"] (spTurnHole C)) : FnOk P w K mg base CX0 2 f fd ["card_file", "place", "way"] (spMendPlace C) := by
  refine F.ok sc_mend_place (fun vs H Q E h => ?_) (fun cdv A outer s H vs Q E hr h => ?_)
  · obtain ⟨a, t, b, y, s, ls, p, o, fl, rfl, _⟩ := h
    rfl
  · obtain ⟨a, t, b, y, st, ls, p, o, fl, rfl, hF, hl, hp, et, eb, hu, k⟩ := h
    have nd := sc_mend_place.nd
    refine ⟨_, pss_cons (ps_if (pt_cmpR op_notN (pe_ix ix_tup (pv 2) pe_int (fun _ _ => rfl)) pe_non (nomark _))
        (pss_one (ps_expr (pe_m MT T.cl hr (pv 0) (pa_cons (pe_ix ix_tup (pv 2) pe_int (fun _ _ => rfl)) (pa_cons (pv 1) pa_nil))))) pss_nil)
      (pss_one (ps_for PassesOwn.never rfl (pi_list (pe_ix ix_tup (pv 2) pe_int (fun _ _ => rfl))) (pg_name (i := 3) nd rfl (Or.inl rfl))
        (pss_one (ps_expr (pe_m MT T.cl hr (pv 0) (pa_cons (pv 3) (pa_cons (pv 1) pa_nil))))))), ?_⟩
    have nb : ∀ {H1 : Hp} {s1 : Vbenag.State}, FileG C H1 a y s1 ls → H1 b = some (.lst (fl.map nV)) → b ∉ own a y := fun h e => h.notOwn (ns := fl.map fun n : Nat => (n : Int)) (.inl (by rw [map_nV]; exact e))
    have loop : ∀ (H1 : Hp), FileG C H1 a y { st with cards := Vbenag.punched st.cards o.toList p } ls → Chg a y y H H1 → H1 t = some (.tup [optV o, .ref b]) → H1 b = some (.lst (fl.map nV)) →
        tFor (iList K (tOp (rIxT K) (tVar 2) (tC (.int 1)))) (gName 3) (tDrop (tMeth C "turn_hole" (spTurnHole C) [] E0 (tVar 0) (tCons (tVar 3) (tCons (tVar 1) tNil)))) ⟨fun _ H' => Q .non H', Q, fun _ _ => False, fun _ _ => False⟩ [some (.ref a), some (nV p), some (.ref t), none] H1 := by
      intro H1 hF1 g1 et1 eb1
      refine ⟨_, rfl, t, _, _, _, rfl, rfl, SqT.of et1, (rfl : atI [optV o, V.ref b] 1 = some (.ref b)), b, rfl, ⟨_, SqL.of eb1⟩, for_list (K := K) (a := b) (xs := fl.map nV) (fun i σ H' => ∃ v : Option V, σ = [some (.ref a), some (nV p), some (.ref t), v] ∧ FileG C H' a y { st with cards := Vbenag.punched st.cards (o.toList ++ fl.take i) p } ls ∧ Chg a y y H H' ∧ H' b = some (.lst (fl.map nV)))
        ⟨none, rfl, by rw [List.take_zero, List.append_nil]; exact hF1, g1, eb1⟩ (fun i σ H' _ ⟨_, _, _, _, e⟩ => SqL.of e) ?_ ?_⟩
      · rintro i x σ H' hi ⟨v, rfl, hFi, gi, ebi⟩
        obtain ⟨c, hc, rfl⟩ := get_map hi
        refine ⟨_, rfl, a, _, _, rfl, hFi.obj, rfl, _, rfl, _, rfl, a, y, _, ls, c, p, rfl, hFi, hu c (List.mem_append_right _ (List.mem_of_getElem? hc)), by show c ∉ st.lost; rw [hl]; exact List.not_mem_nil, hp, fun H2 hF2 g2 => ?_⟩
        refine ⟨_, rfl, ?_, gi.trans g2, g2.frm _ _ ebi (nb hFi ebi)⟩
        have e : Vbenag.toggled (Vbenag.punched st.cards (o.toList ++ fl.take i) p) c p = Vbenag.punched st.cards (o.toList ++ fl.take (i + 1)) p := by
          rw [take_succ_of hc, ← List.append_assoc, punched_snoc]
        have hF2 : FileG C H2 a y { st with cards := Vbenag.toggled (Vbenag.punched st.cards (o.toList ++ fl.take i) p) c p } ls := hF2
        rw [e] at hF2
        exact hF2
      · rintro σ H' ⟨v, rfl, hFi, gi, ebi⟩
        rw [List.length_map, List.take_length] at hFi
        exact k H' hFi gi
    refine ⟨_, rfl, t, _, _, _, rfl, rfl, SqT.of et, (rfl : atI [optV o, V.ref b] 0 = some (optV o)), rfl, _, rfl, ?_⟩
    cases o with
    | none => exact iteF (loop H hF (Chg.refl _ _ _) et eb)
    | some c =>
      refine iteT ?_
      refine ⟨_, rfl, a, _, _, rfl, hF.obj, rfl, _, rfl, t, _, _, _, rfl, rfl, SqT.of et, (rfl : atI [nV c, V.ref b] 0 = some (nV c)), _, rfl, a, y, st, ls, c, p, rfl, hF, hu c (List.mem_append_left _ (List.mem_singleton.mpr rfl)), by rw [hl]; exact List.not_mem_nil, hp, fun H1 hF1 g1 => ?_⟩
      exact loop H1 hF1 g1 (g1.frm _ _ et (hF.notOwnT et)) (g1.frm _ _ eb (nb hF eb))
def spMend (C : Addr) : Sp := fun vs H Q _ => ∃ (a : Addr) (y : Lay) (s : Vbenag.State), vs = [.ref a] ∧ FileAt C H a y s ∧ CallEnd C a y H Q (Vbenag.step s [[11]])
theorem sc_mend : FnScope ["card_file", "readings", "unread", "put_right", "place", "way"] ["card_file"] (defScope s_mend_cards) := ⟨rfl, rfl, rfl, by decide +kernel, rfl, by decide +kernel, by decide +kernel⟩
def unreadN (s : Vbenag.State) (i : Nat) : Nat := (((List.range s.places).take i).filter fun p => (Vbenag.readAt s p).isNone).length
def wrongN (s : Vbenag.State) (i : Nat) : Nat := (((List.range s.places).take i).flatMap (wrongAt s)).length
theorem ok_mend {f : Addr} {fd : FuncData} (F : Fun K "mend_cards" "mend_cards" s_mend_cards f fd) (T : Txt K mg C tc pc)
    (GR : GOk P w K mg base "read_places" 3 ["card_file"] (spRead C)) (MP : MOk P w K mg base C "places" 1 ["self"] (spCards C placesOf)) (GM : GOk P w K mg base "mend_place" 2 ["card_file", "place", "way"] (spMendPlace C)) (MH : MOk P w K mg base C "have_all_cards" 1 ["self"] (spHaveAll C)) :
    FnOk P w K mg base CX0 4 f fd ["card_file"] (spMend C) := by
  refine F.ok sc_mend (fun vs H Q E h => ?_) (fun cdv A outer s H vs Q E hr h => ?_)
  · obtain ⟨a, y, s, rfl, _⟩ := h
    rfl
  · obtain ⟨a, y, st, rfl, hF, k⟩ := h
    have nd := sc_mend.nd
    have hr1 : Room 1 _ := hr.mono (by decide)
    have hr2 : Room 2 _ := hr.mono (by decide)
    refine ⟨_, pss_cons (ps_set (i := 1) nd rfl (Or.inl rfl) (pe_g GR hr rfl (pa_cons (pv 0) pa_nil)))
      (pss_cons (ps_set (i := 2) nd rfl (Or.inl rfl) pe_int)
      (pss_cons (ps_set (i := 3) nd rfl (Or.inl rfl) pe_int)
      (pss_cons (ps_for PassesOwn.never rfl (pi_list (pe_m0 MP T.cl hr1 (pv 0))) (pg_name (i := 4) nd rfl (Or.inl rfl))
        (pss_cons (ps_set (i := 5) nd rfl (Or.inl rfl) (pe_ix ix_list (pv 1) (pv 4) (fun _ _ => rfl)))
        (pss_cons (ps_if (pt_cmpR op_isN (pv 5) pe_non (nomark _)) (pss_cons (ps_set (i := 2) nd rfl (Or.inl rfl) (pe_op op_add (pv 2) pe_int)) (pss_one ps_continue)) pss_nil)
        (pss_cons (ps_set (i := 3) nd rfl (Or.inl rfl) (pe_op op_add (pv 3) (pe_ifExp (pt_cmpR op_isN (pe_ix ix_tup (pv 5) pe_int (fun _ _ => rfl)) pe_non (nomark _)) pe_int pe_int)))
        (pss_one (ps_expr (pe_g GM hr2 rfl (pa_cons (pv 0) (pa_cons (pv 4) (pa_cons (pv 5) pa_nil))))))))))
      (pss_cons (ps_expr (pe_m0 MH T.cl hr1 (pv 0)))
      (pss_one (ps_ret (pe_lst (pa_cons (pv 2) (pa_cons (pv 3) pa_nil))))))))), ?_⟩
    replace k : CallEnd C a y H Q (Vbenag.mended st, [((Vbenag.unread st).length : Int), ((Vbenag.wrongHoles st).length : Int)]) := k
    have p40 := hF.wf.p40
    refine ⟨_, rfl, a, y, st, rfl, hF, fun H1 D1 ys s1 n1 e1 ea => ?_⟩
    have hF1 := hF.same s1
    refine ⟨_, rfl, a, _, _, rfl, hF1.obj, rfl, a, y, st, rfl, hF1, fun HP DP sP nP eP => ?_⟩
    have e1P := sP _ _ e1
    have eaP : Each (ReadV st) (List.range st.places) ys HP := ea.imp fun p v h => h.mono _ _ _ _ sP
    have s0P := s1.trans sP
    have hFP : FileG C HP a y (opened st) st.lost := (hF.same s0P).swap hF.wf.opened rfl rfl rfl (fun _ _ => rfl)
    have D1o : D1 ∉ own a y := hF.free n1
    have DPo : DP ∉ own a y := hF1.free nP
    refine ⟨DP, rfl, ⟨_, SqL.of eP⟩, for_list (K := K) (a := DP) (xs := (placesOf st).map nV) (fun i σ H' => ∃ (v4 v5 : Option V) (s' : Vbenag.State), σ = [some (.ref a), some (.ref D1), some (nV (unreadN st i)), some (nV (wrongN st i)), v4, v5] ∧ FileG C H' a y s' st.lost ∧ Upto st s' i ∧ Chg a y y HP H' ∧ H' D1 = some (.lst ys) ∧ H' DP = some (.lst ((placesOf st).map nV)) ∧ Each (ReadV st) (List.range st.places) ys H')
      ⟨none, none, opened st, rfl, hFP, Upto.zero st, Chg.refl _ _ _, e1P, eP, eaP⟩ (fun i σ H' _ ⟨_, _, _, _, _, _, _, _, e, _⟩ => SqL.of e) ?_ ?_⟩
    · rintro i x σ H' hix ⟨v4, v5, s', rfl, hFi, up, gi, e1i, ePi, eai⟩
      obtain ⟨pj, hpj, rfl⟩ := get_map hix
      obtain ⟨hi, rfl⟩ := range_get hpj
      obtain ⟨v, hv, rv⟩ := eai.get (List.getElem?_range hi)
      refine ⟨_, rfl, _, rfl, D1, _, _, _, rfl, rfl, SqL.of e1i, atI_nat hv, ?_⟩
      have hra := readAt_ways hF.wf i
      unfold ReadV at rv
      have eN : unreadN st (i + 1) = unreadN st i + if (Vbenag.readAt st i).isNone = true then 1 else 0 := by
        unfold unreadN
        rw [range_take_filter _ hi, List.length_append]
        split <;> rfl
      have eW : wrongN st (i + 1) = wrongN st i + (wrongAt st i).length := by
        unfold wrongN
        rw [range_take hi, List.flatMap_append, List.flatMap_cons, List.flatMap_nil, List.append_nil, List.length_append]
      cases e : only (ways st (mk (holesAt st i))) with
      | none =>
        rw [e] at rv hra
        have hra : Vbenag.readAt st i = none := hra
        obtain rfl : v = .non := rv
        refine ⟨_, rfl, rfl, _, rfl, iteT ?_⟩
        refine ⟨_, rfl, _, _, rfl, rfl, ?_⟩
        have w0 : wrongAt st i = [] := by unfold wrongAt; rw [hra]
        refine ⟨some (nV i), some .non, s', ?_, hFi, up.skip hF.wf hi e, gi, e1i, ePi, eai⟩
        rw [eN, eW, hra, w0]
        rfl
      | some x =>
        obtain ⟨o, fl⟩ := x
        rw [e] at rv hra
        have hra : Vbenag.readAt st i = some (back (o, fl)) := hra
        obtain ⟨t, b, rfl, et, eb⟩ := rv
        have et : H' t = some (.tup [optV o, .ref b]) := et
        have eb : H' b = some (.lst (fl.map nV)) := eb
        refine ⟨_, rfl, rfl, _, rfl, iteF ?_⟩
        obtain ⟨hn, hu⟩ := way_list hF.wf (only_in e)
        have hu' : ∀ c ∈ o.toList ++ fl, c ∈ Vbenag.used s' := fun c hc => by rw [used_eq, up.t, ← used_eq]; exact hu c hc
        have go : ∀ m : Nat, m = (wrongAt st i).length → tDrop (tCall (spMendPlace C) [] E0 (tCons (tVar 0) (tCons (tVar 4) (tCons (tVar 5) tNil))))
            ⟨(fun σ H' => ∃ (v4 v5 : Option V) (s' : Vbenag.State), σ = [some (.ref a), some (.ref D1), some (nV (unreadN st (i + 1))), some (nV (wrongN st (i + 1))), v4, v5] ∧ FileG C H' a y s' st.lost ∧ Upto st s' (i + 1) ∧ Chg a y y HP H' ∧ H' D1 = some (.lst ys) ∧ H' DP = some (.lst ((placesOf st).map nV)) ∧ Each (ReadV st) (List.range st.places) ys H'), Q, (fun _ _ => True), fun _ _ => True⟩
            [some (.ref a), some (.ref D1), some (nV (unreadN st i)), some (.int ((wrongN st i : Int) + (m : Int))), some (nV i), some (.ref t)] H' := by
          intro m hm
          refine ⟨_, rfl, _, rfl, _, rfl, a, t, b, y, s', st.lost, i, o, fl, rfl, hFi, up.l, by rw [up.p]; exact hi, et, eb, hu', fun H2 hF2 g2 => ?_⟩
          refine ⟨some (nV i), some (.ref t), _, ?_, hF2, up.step hF.wf hFi.wf hi e, gi.trans g2, g2.frm _ _ e1i D1o, g2.frm _ _ ePi DPo, eai.imp fun p v h => ?_⟩
          · rw [eN, eW, hra, ← hm]
            rfl
          · unfold ReadV at h ⊢
            cases e' : only (ways st (mk (holesAt st p))) with
            | none => rw [e'] at h; exact h
            | some z =>
              rw [e'] at h
              obtain ⟨t', b', h1, h2, h3⟩ := h
              exact ⟨t', b', h1, g2.frm _ _ h2 (hFi.notOwnT h2), g2.frm _ _ h3 (hFi.notOwn (ns := z.2.map fun n : Nat => (n : Int)) (.inl (by rw [map_nV]; exact h3)))⟩
        refine ⟨_, rfl, _, rfl, t, _, _, _, rfl, rfl, SqT.of et, (rfl : atI [optV o, V.ref b] 0 = some (optV o)), rfl, _, rfl, ?_⟩
        have ew : (wrongAt st i).length = o.toList.length := by
          unfold wrongAt
          rw [hra]
          show ((back (o, fl)).2.map _).length = _
          rw [List.length_map]
          rfl
        cases o with
        | none => exact iteT ⟨_, _, rfl, rfl, go 0 (by rw [ew]; rfl)⟩
        | some c => exact iteF ⟨_, _, rfl, rfl, go 1 (by rw [ew]; rfl)⟩
    · rintro σ H' ⟨v4, v5, s', rfl, hFi, up, gi, e1i, ePi, eai⟩
      have hlen : ((placesOf st).map nV).length = st.places := by rw [List.length_map]; exact List.length_range
      rw [hlen] at up ⊢
      have hm : FileG C H' a y (Vbenag.mended st) st.lost := by
        refine hFi.swap (hF.wf.step [[11]]) up.t.symm up.p.symm up.it.symm fun c hc => ?_
        unfold rowV
        rw [show (Vbenag.mended st).places = s'.places from up.p.symm]
        refine List.map_congr_left fun p hp => ?_
        have hp' : p < st.places := by rw [← up.p]; exact List.mem_range.mp hp
        rw [up.h c (by rw [used_eq, ← up.t, ← used_eq]; exact hc) p hp', if_pos hp']
      refine ⟨_, rfl, a, _, _, rfl, hm.obj, rfl, a, y, Vbenag.mended st, st.lost, rfl, hm, rfl, fun H2 y2 hF2 g2 => ?_⟩
      refine ⟨_, rfl, _, rfl, (by show 2 ≤ sizeLine; decide), fun p1 np => ?_⟩
      have gg : Chg a y y2 H H2 := Chg.sameL s0P (gi.trans g2)
      refine k _ y2 p1 (hF2.same (same_new np)) (gg.sameR (same_new np)) (gg.none np) (hF2.free np) ?_
      rw [upd_same]
      have eu : unreadN st st.places = (Vbenag.unread st).length := by unfold unreadN; rw [range_all]; rfl
      have ewn : wrongN st st.places = (Vbenag.wrongHoles st).length := by unfold wrongN; rw [range_all, ← wrongHoles_eq]
      rw [eu, ewn]
      rfl
end
end Hc
set_option Elab.async false
set_option linter.all false
set_option maxRecDepth 100000
set_option maxHeartbeats 4000000
namespace Hc
open PySem PySem.Spec PyProof.Rows L2
def later (ts : List Nat) (t : Nat) : Bool := match ts.getLast? with
  | none => true
  | some u => decide (u < t)
def grow (l ts : List Nat) : List (List Nat) := (l.filter (later ts)).map fun t => ts ++ [t]
theorem later_cons (a : Nat) {ts : List Nat} {t : Nat} (h : a < t) : later (a :: ts) t = later ts t := by
  unfold later
  cases ts with
  | nil => show decide (a < t) = true; exact decide_eq_true h
  | cons b ts => rw [List.getLast?_cons_cons]
theorem later_mem {l ts : List Nat} {t : Nat} (hs : ts.Sublist l) (h0 : ts ≠ []) (h : ∀ u ∈ l, t ≤ u) : later ts t = false := by
  unfold later
  cases e : ts.getLast? with
  | none => exact absurd (List.getLast?_eq_none_iff.mp e) h0
  | some u =>
    have := h u (hs.subset (List.mem_of_getLast? e))
    exact decide_eq_false (by omega)
theorem grow_sets : ∀ (l : List Nat), Inc l → ∀ k, (Vbenag.setsOf k l).flatMap (grow l) = Vbenag.setsOf (k + 1) l
  | l, hl, 0 => by
    rw [setsOf_zero, List.flatMap_cons, List.flatMap_nil, List.append_nil]
    unfold grow
    rw [show l.filter (later []) = l from List.filter_eq_self.mpr fun _ _ => rfl]
    clear hl
    induction l with
    | nil => rfl
    | cons a l ih =>
      show [a] :: l.map (fun t => [t]) = (Vbenag.setsOf 0 l).map (fun s => a :: s) ++ Vbenag.setsOf 1 l
      rw [setsOf_zero, ← ih]
      rfl
  | [], _, k + 1 => rfl
  | a :: l, hl, k + 1 => by
    have hl' := List.pairwise_cons.mp hl
    have lt : ∀ t ∈ l, a < t := hl'.1
    show ((Vbenag.setsOf k l).map (fun s => a :: s) ++ Vbenag.setsOf (k + 1) l).flatMap (grow (a :: l)) = (Vbenag.setsOf (k + 1) l).map (fun s => a :: s) ++ Vbenag.setsOf (k + 2) l
    rw [List.flatMap_append, List.flatMap_map]
    congr 1
    · rw [← grow_sets l hl'.2 k, List.map_flatMap]
      unfold List.flatMap
      congr 1
      refine List.map_congr_left fun ts hts => ?_
      have hs := ((mem_setsOf k l ts).mp hts).1
      have e1 : (a :: l).filter (later (a :: ts)) = l.filter (later ts) := by
        rw [List.filter_cons, if_neg]
        · exact List.filter_congr fun t ht => later_cons a (lt t ht)
        · rw [later_mem (hs.cons_cons a) (by simp) fun u hu => ?_]
          · exact Bool.false_ne_true
          · rcases List.mem_cons.mp hu with z | z
            · omega
            · have := lt u z
              omega
      unfold grow
      rw [e1, List.map_map]
      rfl
    · rw [← grow_sets l hl'.2 (k + 1)]
      unfold List.flatMap
      congr 1
      refine List.map_congr_left fun ts hts => ?_
      have hs := (mem_setsOf (k + 1) l ts).mp hts
      unfold grow
      rw [List.filter_cons, if_neg]
      rw [later_mem hs.1 (fun z => by rw [z] at hs; exact absurd hs.2 (by simp)) fun u hu => Nat.le_of_lt (lt u hu)]
      exact Bool.false_ne_true
theorem setsOf_len : ∀ (l : List Nat) (k : Nat), (Vbenag.setsOf k l).length ≤ 2 ^ l.length
  | l, 0 => by
    rw [setsOf_zero]
    exact Nat.one_le_two_pow
  | [], k + 1 => Nat.zero_le _
  | a :: l, k + 1 => by
    show ((Vbenag.setsOf k l).map (fun s => a :: s) ++ Vbenag.setsOf (k + 1) l).length ≤ _
    rw [List.length_append, List.length_map, List.length_cons, Nat.pow_succ]
    have := setsOf_len l k
    have := setsOf_len l (k + 1)
    omega
theorem grow_len (l ts : List Nat) : (grow l ts).length ≤ l.length := by
  unfold grow
  rw [List.length_map]
  exact List.length_filter_le _ _
theorem flat_grow_len (l : List Nat) : ∀ S : List (List Nat), (S.flatMap (grow l)).length ≤ l.length * S.length
  | [] => Nat.le_refl _
  | ts :: S => by
    rw [List.flatMap_cons, List.length_append, List.length_cons, Nat.mul_succ]
    have := flat_grow_len l S
    have := grow_len l ts
    omega
theorem range_cut {n k : Nat} (h : k < n) : ∃ r, List.range n = List.range k ++ k :: r := by
  refine ⟨(List.range n).drop (k + 1), ?_⟩
  have h1 : (List.range n).take k = List.range k := by rw [List.take_range, Nat.min_eq_left (Nat.le_of_lt h)]
  have h2 : (List.range n).drop k = k :: (List.range n).drop (k + 1) := by
    rw [List.drop_eq_getElem_cons (by rw [List.length_range]; exact h), List.getElem_range]
  rw [← h1, ← h2, List.take_append_drop]
theorem find_parts {q : List Nat → Bool} {l : List Nat} {k i : Nat} {x : List Nat} (hk : k ≤ l.length) (h1 : ∀ j, j < k → ∀ ts ∈ Vbenag.setsOf j l, q ts = false) (h2 : (Vbenag.setsOf k l)[i]? = some x) (h3 : ∀ ts ∈ (Vbenag.setsOf k l).take i, q ts = false) (hx : q x = true) :
    (Vbenag.parts l).find? q = some x := by
  obtain ⟨r, hr⟩ := range_cut (n := l.length + 1) (k := k) (by omega)
  unfold Vbenag.parts
  rw [hr, List.flatMap_append, List.flatMap_cons, List.find?_append, List.find?_append]
  have e1 : ((List.range k).flatMap fun k => Vbenag.setsOf k l).find? q = none := List.find?_eq_none.mpr fun ts hts => by
    obtain ⟨j, hj, hm⟩ := List.mem_flatMap.mp hts
    rw [h1 j (List.mem_range.mp hj) ts hm]
    exact Bool.false_ne_true
  have e2 : (Vbenag.setsOf k l).find? q = some x := by
    conv => lhs; rw [← List.take_append_drop i (Vbenag.setsOf k l)]
    rw [List.find?_append, List.find?_eq_none.mpr fun ts hts => by rw [h3 ts hts]; exact Bool.false_ne_true, drop_at h2, List.find?_cons, hx]
    rfl
  rw [e1, e2]
  rfl
theorem find_none {q : List Nat → Bool} {l : List Nat} {k : Nat} (h1 : ∀ j, j < k → ∀ ts ∈ Vbenag.setsOf j l, q ts = false) (h2 : Vbenag.setsOf k l = []) : (Vbenag.parts l).find? q = none := by
  refine List.find?_eq_none.mpr fun ts hts => ?_
  have hs := (mem_parts l ts).mp hts
  have hk : l.length < k := by
    by_cases z : l.length < k
    · exact z
    · have : l.take k ∈ Vbenag.setsOf k l := (mem_setsOf k l _).mpr ⟨List.take_sublist _ _, by rw [List.length_take]; omega⟩
      rw [h2] at this
      cases this
  rw [h1 ts.length (Nat.lt_of_le_of_lt hs.length_le hk) ts ((mem_setsOf _ l ts).mpr ⟨hs, rfl⟩)]
  exact Bool.false_ne_true
def ElS (s : Vbenag.State) (S : Addr) (ts : List Nat) (v : V) (H : Hp) : Prop := ∃ t b1 b2, v = .ref t ∧ t ≠ S ∧ b1 ≠ S ∧ b2 ≠ S ∧ H t = some (.tup [.ref b1, .ref b2]) ∧ H b1 = some (.lst (ts.map nV)) ∧ H b2 = some (.lst ((Vbenag.light s ts).map nV))
def ElL (s : Vbenag.State) (ts : List Nat) (v : V) (H : Hp) : Prop := ∃ t b1 b2, v = .ref t ∧ H t = some (.tup [.ref b1, .ref b2]) ∧ H b1 = some (.lst (ts.map nV)) ∧ H b2 = some (.lst ((Vbenag.light s ts).map nV))
theorem ElL.mono {s : Vbenag.State} {ts : List Nat} {v : V} {H H' : Hp} (sm : Same H H') (h : ElL s ts v H) : ElL s ts v H' := by
  obtain ⟨t, b1, b2, h1, h2, h3, h4⟩ := h
  exact ⟨t, b1, b2, h1, sm _ _ h2, sm _ _ h3, sm _ _ h4⟩
theorem ElS.keep {s : Vbenag.State} {S : Addr} {ts : List Nat} {v : V} {H H' : Hp} (sm : ∀ b o, H b = some o → b ≠ S → H' b = some o) (h : ElS s S ts v H) : ElS s S ts v H' := by
  obtain ⟨t, b1, b2, h1, n0, n1, n2, h2, h3, h4⟩ := h
  exact ⟨t, b1, b2, h1, n0, n1, n2, sm _ _ h2 n0, sm _ _ h3 n1, sm _ _ h4 n2⟩
theorem ElS.toL {s : Vbenag.State} {S : Addr} {ts : List Nat} {v : V} {H : Hp} (h : ElS s S ts v H) : ElL s ts v H := by
  obtain ⟨t, b1, b2, h1, n0, n1, n2, h2, h3, h4⟩ := h
  exact ⟨t, b1, b2, h1, h2, h3, h4⟩
theorem later_is (ts : List Nat) (t : Nat) : later ts t = (decide ((ts.length : Int) = 0) || match ts.getLast? with | none => false | some u => decide (u < t)) := by
  unfold later
  cases e : ts.getLast? with
  | none =>
    have := List.getLast?_eq_none_iff.mp e
    subst this
    rfl
  | some u =>
    have h0 : ts ≠ [] := fun z => by rw [z] at e; cases e
    have h1 : ts.length ≠ 0 := fun z => h0 (List.length_eq_zero_iff.mp z)
    rw [decide_eq_false (by omega), Bool.false_or]
theorem atI_getLast {ts : List Nat} {u : Nat} (h : ts.getLast? = some u) : atI (ts.map nV) (-1) = some (nV u) := by
  have h0 : ts ≠ [] := fun z => by rw [z] at h; cases h
  have e : ts = ts.dropLast ++ [u] := by
    rw [List.getLast?_eq_some_getLast h0] at h
    rw [← Option.some.inj h]
    exact (List.dropLast_concat_getLast h0).symm
  rw [e, List.map_append]
  exact atI_last _ _
section
variable {P : Program} {w : World} {K : PySem.W.Frag} {mg : Str → Option Value} {base : Heap} {C tc pc : Addr}
def spMore (C : Addr) : Sp := fun vs H Q _ => ∃ (a L : Addr) (y : Lay) (s : Vbenag.State) (zs : List V) (sets : List (List Nat)), vs = [.ref a, .ref L] ∧ FileAt C H a y s ∧ H L = some (.lst zs) ∧ Each (ElL s) sets zs H ∧ sets.length ≤ 100000 ∧ (∀ ts ∈ sets, ts.length ≤ 100) ∧
  ∀ H' D ws, Same H H' → H D = none → H' D = some (.lst ws) → Each (ElL s) (sets.flatMap (grow (List.range s.terms))) ws H' → Q (.ref D) H'
theorem sc_more : FnScope ["card_file", "lit_sets", "larger", "lit_set", "terms", "term"] ["card_file", "lit_sets"] (defScope s_one_term_more) := ⟨rfl, rfl, rfl, by decide +kernel, rfl, by decide +kernel, by decide +kernel⟩
theorem ok_more {f : Addr} {fd : FuncData} (F : Fun K "one_term_more" "one_term_more" s_one_term_more f fd) (T : Txt K mg C tc pc)
    (MT : MOk P w K mg base C "terms" 1 ["self"] (spCards C termsOf)) (GS : GOk P w K mg base "still_shining" 2 ["card_file", "places", "term"] (spStill K C)) : FnOk P w K mg base CX0 3 f fd ["card_file", "lit_sets"] (spMore C) := by
  refine F.ok sc_more (fun vs H Q E h => ?_) (fun cdv A outer s H vs Q E hr h => ?_)
  · obtain ⟨a, L, y, s, zs, sets, rfl, _⟩ := h
    rfl
  · obtain ⟨a, L, y, st, zs, sets, rfl, hF, eL, ez, hsl, hts, k⟩ := h
    have nd := sc_more.nd
    have hr1 : Room 1 _ := hr.mono (by decide)
    refine ⟨_, pss_cons (ps_set (i := 2) nd rfl (Or.inl rfl) (pe_lst pa_nil))
      (pss_cons (ps_for PassesOwn.never rfl (pi_list (pv 1)) (pg_name (i := 3) nd rfl (Or.inl rfl))
        (pss_cons (ps_set (i := 4) nd rfl (Or.inl rfl) (pe_ix ix_tup (pv 3) pe_int (fun _ _ => rfl)))
        (pss_one (ps_for PassesOwn.never rfl (pi_list (pe_m0 MT T.cl hr1 (pv 0))) (pg_name (i := 5) nd rfl (Or.inl rfl))
          (pss_one (ps_if (PW.pt (pw_or (pt_cmpR op_eq (pe_callB call_len_seq (by rfl) T.len PySem.boot_len (pa_cons (pv 4) pa_nil)) pe_int (nomark _)) (pw_or1 (pt_cmpR op_gt (pv 5) (pe_ix ix_list (pv 4) (pe_un un_neg pe_int) (fun _ _ => rfl)) (nomark _)))))
            (pss_one (ps_expr (pe_bm PySem.F.plainAttrs_list PySem.F.slot_list_append PySem.F.type_list_append mt_append (pv 2)
              (pa_cons (pe_tup (pa_cons (pe_op op_cat (pv 4) (pe_lst (pa_cons (pv 5) pa_nil))) (pa_cons (pe_g GS hr rfl (pa_cons (pv 0) (pa_cons (pe_ix ix_tup (pv 3) pe_int (fun _ _ => rfl)) (pa_cons (pv 5) pa_nil)))) pa_nil))) pa_nil)))) pss_nil))))))
      (pss_one (ps_ret (pv 2)))), ?_⟩
    have h11 := hF.wf.t11
    refine ⟨(by show 0 ≤ sizeLine; decide), fun S nS => ?_⟩
    have sS := same_new nS (o := .lst [])
    have eS0 : upd H S (.lst []) S = some (.lst []) := upd_same
    refine ⟨_, rfl, L, rfl, ⟨_, SqL.of (sS _ _ eL)⟩, for_list (K := K) (a := L) (xs := zs) (fun i σ H' => ∃ (v3 v4 v5 : Option V) (ws : List V), σ = [some (.ref a), some (.ref L), some (.ref S), v3, v4, v5] ∧ Same H H' ∧ H' S = some (.lst ws) ∧ Each (ElS st S) ((sets.take i).flatMap (grow (List.range st.terms))) ws H')
      ⟨none, none, none, [], rfl, sS, eS0, Each.nil⟩ (fun i σ H' _ ⟨_, _, _, _, _, s2, _⟩ => SqL.of (s2 _ _ eL)) ?_ ?_⟩
    · rintro i x σ H' hi ⟨v3, v4, v5, ws, rfl, sH, eS, ew⟩
      have hil : i < sets.length := by rw [← ez.1]; exact (List.getElem?_eq_some_iff.mp hi).1
      have hset := List.getElem?_eq_getElem hil
      generalize sets[i] = ts at hset
      have htl := hts ts (List.mem_of_getElem? hset)
      obtain ⟨t, b1, b2, rfl, et, eb1, eb2⟩ := ez.2 i ts x hset hi
      refine ⟨_, rfl, t, _, _, _, rfl, rfl, SqT.of (sH _ _ et), (rfl : atI [V.ref b1, V.ref b2] 0 = some (.ref b1)), ?_⟩
      have hFi := hF.same sH
      refine ⟨_, rfl, a, _, _, rfl, hFi.obj, rfl, a, y, st, rfl, hFi, fun HT DT sT nT eT => ?_⟩
      have DTS : DT ≠ S := fun z => by rw [z, eS] at nT; cases nT
      have hnext : (sets.take (i + 1)).flatMap (grow (List.range st.terms)) = (sets.take i).flatMap (grow (List.range st.terms)) ++ grow (List.range st.terms) ts := by
        rw [take_succ_of hset, List.flatMap_append, List.flatMap_cons, List.flatMap_nil, List.append_nil]
      have hprev : ((sets.take i).flatMap (grow (List.range st.terms))).length ≤ 1100000 := by
        refine Nat.le_trans (flat_grow_len _ _) ?_
        rw [List.length_range, List.length_take]
        exact Nat.le_trans (Nat.mul_le_mul h11 (Nat.min_le_right _ _)) (by omega)
      refine ⟨DT, rfl, ⟨_, SqL.of eT⟩, for_list (K := K) (a := DT) (xs := (termsOf st).map nV) (fun j σ H' => ∃ (v5 : Option V) (ws : List V), σ = [some (.ref a), some (.ref L), some (.ref S), some (.ref t), some (.ref b1), v5] ∧ Same H H' ∧ H' DT = some (.lst ((termsOf st).map nV)) ∧ H' S = some (.lst ws) ∧
          Each (ElS st S) ((sets.take i).flatMap (grow (List.range st.terms)) ++ (((List.range st.terms).take j).filter (later ts)).map fun u => ts ++ [u]) ws H')
        ⟨_, ws, rfl, sH.trans sT, eT, sT _ _ eS, by rw [List.take_zero, List.filter_nil, List.map_nil, List.append_nil]; exact ew.imp fun x v h => h.keep fun b o e _ => sT _ _ e⟩ (fun j σ H' _ ⟨_, _, _, _, e, _⟩ => SqL.of e) ?_ ?_⟩
      · rintro j x σ H2 hjx ⟨w5, ws, rfl, s2, eDT2, eS2, ew2⟩
        obtain ⟨tj, htj, rfl⟩ := get_map hjx
        obtain ⟨hj, rfl⟩ := range_get htj
        have hF2 := hF.same s2
        have eb1' := s2 _ _ eb1
        have eb2' := s2 _ _ eb2
        have et' := s2 _ _ et
        have e2 : ((List.range st.terms).take (j + 1)).filter (later ts) = _ := range_take_filter (later ts) hj
        have yes : later ts j = true → ∀ (D : Ends), D.nx = (fun σ H' => ∃ (v5 : Option V) (ws : List V), σ = [some (.ref a), some (.ref L), some (.ref S), some (.ref t), some (.ref b1), v5] ∧ Same H H' ∧ H' DT = some (.lst ((termsOf st).map nV)) ∧ H' S = some (.lst ws) ∧
            Each (ElS st S) ((sets.take i).flatMap (grow (List.range st.terms)) ++ (((List.range st.terms).take (j + 1)).filter (later ts)).map fun u => ts ++ [u]) ws H') →
            tDrop (tBM K "list" rAppend (tVar 2) (tCons (tTup (tCons (tOp rCat (tVar 4) (tLst (tCons (tVar 5) tNil))) (tCons (tCall (spStill K C) [] E0 (tCons (tVar 0) (tCons (tOp (rIxT K) (tVar 3) (tC (.int 1))) (tCons (tVar 5) tNil)))) tNil))) tNil)) D
              [some (.ref a), some (.ref L), some (.ref S), some (.ref t), some (.ref b1), some (nV j)] H2 := by
          intro q D hD
          have hw2 : ws.length ≤ 1200000 := by
            rw [ew2.1, List.length_append, List.length_map]
            have := range_take_len (n := st.terms) (i := j) (later ts)
            omega
          refine ⟨_, rfl, .inl ⟨rfl, _, SqL.of eS2⟩, _, rfl, _, rfl, (by show 1 ≤ sizeLine; decide), fun p1 n1 => ?_⟩
          have s21 := same_new n1 (o := .lst [nV j])
          refine ⟨b1, p1, _, _, rfl, rfl, s21 _ _ eb1', upd_same, ?_, fun p2 n2 => ?_⟩
          · rw [List.length_map, sizeLine_eq]
            show _ + 1 ≤ _
            omega
          · have s22 := s21.trans (same_new n2 (o := .lst (ts.map nV ++ [nV j])))
            have ep2 : upd (upd H2 p1 (.lst [nV j])) p2 (.lst (ts.map nV ++ [nV j])) p2 = some (.lst ((ts ++ [j]).map nV)) := by rw [upd_same, List.map_append]; rfl
            generalize upd (upd H2 p1 (.lst [nV j])) p2 (.lst (ts.map nV ++ [nV j])) = H3 at s22 ep2 ⊢
            have n2' : H2 p2 = none := s21.free n2
            have hll := light_len hF.wf ts
            refine ⟨_, rfl, _, rfl, t, _, _, _, rfl, rfl, SqT.of (s22 _ _ et'), (rfl : atI [V.ref b1, V.ref b2] 1 = some (.ref b2)), _, rfl, a, b2, y, st, Vbenag.light st ts, j, rfl, hF2.same s22, .inl (SqL.of (s22 _ _ eb2')), by omega, fun p hp => light_lt hp, hj, fun H4 D4 s4 n4 e4 => ?_⟩
            refine ⟨(by show 2 ≤ sizeLine; decide), fun u nu => ?_⟩
            have su := same_new nu (o := .tup [.ref p2, .ref D4])
            have s2u := s22.trans (s4.trans su)
            have eSu := s2u _ _ eS2
            refine ⟨S, _, _, rfl, rfl, eSu, by rw [sizeLine_eq]; omega, ?_⟩
            rw [hD]
            refine ⟨_, ws ++ [.ref u], rfl, same_upd (s2.trans s2u) nS, by rw [upd_ne DTS]; exact s2u _ _ eDT2, upd_same, ?_⟩
            rw [e2, if_pos q, List.map_append, ← List.append_assoc]
            have kp : ∀ b o, upd H4 u (.tup [.ref p2, .ref D4]) b = some o → b ≠ S → upd (upd H4 u (.tup [.ref p2, .ref D4])) S (.lst (ws ++ [.ref u])) b = some o := fun b o e n => by rw [upd_ne n]; exact e
            refine (ew2.imp fun x v h => (h.keep fun b o e _ => s2u _ _ e).keep kp).snoc ?_
            have uS : u ≠ S := fun z => by
              have e := s4 _ _ (s22 _ _ eS2)
              rw [z, e] at nu; cases nu
            have pS : p2 ≠ S := fun z => by rw [z, eS2] at n2'; cases n2'
            have dS : D4 ≠ S := fun z => by
              have e := s22 _ _ eS2
              rw [z, e] at n4; cases n4
            refine ElS.keep kp ⟨u, p2, D4, rfl, uS, pS, dS, upd_same, su _ _ (s4 _ _ ep2), su _ _ ?_⟩
            rw [e4, light_snoc]
        have no : later ts j = false → ∃ (v5 : Option V) (ws : List V), [some (V.ref a), some (.ref L), some (.ref S), some (.ref t), some (.ref b1), some (nV j)] = [some (.ref a), some (.ref L), some (.ref S), some (.ref t), some (.ref b1), v5] ∧ Same H H2 ∧ H2 DT = some (.lst ((termsOf st).map nV)) ∧ H2 S = some (.lst ws) ∧
            Each (ElS st S) ((sets.take i).flatMap (grow (List.range st.terms)) ++ (((List.range st.terms).take (j + 1)).filter (later ts)).map fun u => ts ++ [u]) ws H2 := by
          intro q
          refine ⟨_, ws, rfl, s2, eDT2, eS2, ?_⟩
          rw [e2, q, if_neg Bool.false_ne_true, List.append_nil]
          exact ew2
        have lis := later_is ts j
        refine ⟨_, rfl, b1, _, rfl, .inl (SqL.of eb1'), rfl, _, rfl, ?_⟩
        rw [List.length_map, dec_int]
        refine ite2 (fun q => ?_) fun q => ?_
        · have q : (ts.length : Int) = 0 := eq_of_beq q
          rw [decide_eq_true q, Bool.true_or] at lis
          exact iteT (yes lis _ rfl)
        · have q : ¬ (ts.length : Int) = 0 := fun z => q (by rw [z]; rfl)
          rw [decide_eq_false q, Bool.false_or] at lis
          cases hlast : ts.getLast? with
          | none =>
            have := List.getLast?_eq_none_iff.mp hlast
            rw [this] at q
            exact absurd rfl q
          | some u =>
            rw [hlast] at lis
            have lis : later ts j = decide (u < j) := lis
            refine ⟨_, rfl, _, rfl, _, rfl, b1, _, _, _, rfl, rfl, SqL.of eb1', atI_getLast hlast, _, _, rfl, rfl, _, rfl, ?_⟩
            refine ite2 (fun q => ?_) fun q => ?_
            · have q : ((u : Nat) : Int) < (j : Int) := of_decide_eq_true q
              exact yes (by rw [lis]; exact decide_eq_true (by omega)) _ rfl
            · have q : ¬ ((u : Nat) : Int) < (j : Int) := fun z => q (decide_eq_true z)
              exact no (by rw [lis]; exact decide_eq_false (by omega))
      · rintro σ H2 ⟨w5, ws, rfl, s2, eDT2, eS2, ew2⟩
        have hlen : ((termsOf st).map nV).length = st.terms := by rw [List.length_map]; exact List.length_range
        rw [hlen, range_all st.terms, show ((List.range st.terms).filter (later ts)).map (fun u => ts ++ [u]) = grow (List.range st.terms) ts from rfl, ← hnext] at ew2
        exact ⟨_, _, _, ws, rfl, s2, eS2, ew2⟩
    · rintro σ H' ⟨v3, v4, v5, ws, rfl, sH, eS, ew⟩
      rw [ez.1, List.take_length] at ew
      exact ⟨_, rfl, k H' S ws sH nS eS (ew.imp fun x v h => h.toL)⟩
end
end Hc
set_option Elab.async false
set_option linter.all false
set_option maxRecDepth 100000
set_option maxHeartbeats 4000000
namespace Hc
open PySem PySem.Spec PyProof.Rows L2
section
variable {P : Program} {w : World} {K : PySem.W.Frag} {mg : Str → Option Value} {base : Heap} {C tc pc : Addr}
def spFirst (C : Addr) : Sp := fun vs H Q _ => ∃ (a : Addr) (y : Lay) (s : Vbenag.State) (p : Nat), vs = [.ref a, nV p] ∧ FileAt C H a y s ∧ (∀ H', Same H H' → Vbenag.alone s p = none → Q .non H') ∧
  ∀ H' b ts, Same H H' → Vbenag.alone s p = some ts → ts.length ≤ 11 → H' b = some (.lst (ts.map nV)) → Q (.ref b) H'
theorem sc_first : FnScope ["card_file", "place", "lit_sets", "lit_set"] ["card_file", "place"] (defScope s_first_set_alone) := ⟨rfl, rfl, rfl, by decide +kernel, rfl, by decide +kernel, by decide +kernel⟩
theorem ok_first {f : Addr} {fd : FuncData} (F : Fun K "first_set_alone" "first_set_alone" s_first_set_alone f fd) (T : Txt K mg C tc pc)
    (MP : MOk P w K mg base C "places" 1 ["self"] (spCards C placesOf)) (GM : GOk P w K mg base "one_term_more" 3 ["card_file", "lit_sets"] (spMore C)) : FnOk P w K mg base CX0 4 f fd ["card_file", "place"] (spFirst C) := by
  refine F.ok sc_first (fun vs H Q E h => ?_) (fun cdv A outer s H vs Q E hr h => ?_)
  · obtain ⟨a, y, s, p, rfl, _⟩ := h
    rfl
  · obtain ⟨a, y, st, p, rfl, hF, kN, kS⟩ := h
    have nd := sc_first.nd
    have hr1 : Room 1 _ := hr.mono (by decide)
    refine ⟨_, pss_cons (ps_set (i := 2) nd rfl (Or.inl rfl) (pe_lst (pa_cons (pe_tup (pa_cons (pe_lst pa_nil) (pa_cons (pe_m0 MP T.cl hr1 (pv 0)) pa_nil))) pa_nil)))
      (pss_cons (ps_while PassesOwn.never (pt_cmpR op_gt (pe_callB call_len_seq (by rfl) T.len PySem.boot_len (pa_cons (pv 2) pa_nil)) pe_int (nomark _))
        (pss_cons (ps_for PassesOwn.never rfl (pi_list (pv 2)) (pg_name (i := 3) nd rfl (Or.inl rfl))
          (pss_one (ps_if (pt_cmpR (op_eqD hr.units) (pe_ix ix_tup (pv 3) pe_int (fun _ _ => rfl)) (pe_lst (pa_cons (pv 1) pa_nil)) (nomark _)) (pss_one (ps_ret (pe_ix ix_tup (pv 3) pe_int (fun _ _ => rfl)))) pss_nil)))
        (pss_one (ps_set (i := 2) nd rfl (Or.inl rfl) (pe_g GM hr rfl (pa_cons (pv 0) (pa_cons (pv 2) pa_nil)))))))
      (pss_one (ps_ret pe_non))), ?_⟩
    have h11 := hF.wf.t11
    rw [alone_all] at kN kS
    have hinc := inc_range st.terms
    refine ⟨(by show 0 ≤ sizeLine; decide), fun b0 n0 => ?_⟩
    have s0 := same_new n0 (o := .lst [])
    have hF0 := hF.same s0
    refine ⟨_, rfl, a, _, _, rfl, hF0.obj, rfl, a, y, st, rfl, hF0, fun H1 D1 s1 n1 e1 => ?_⟩
    have eb0 : H1 b0 = some (.lst []) := s1 _ _ upd_same
    refine ⟨(by show 2 ≤ sizeLine; decide), fun t0 nt0 => ?_⟩
    have st0 := same_new nt0 (o := .tup [.ref b0, .ref D1])
    refine ⟨(by show 1 ≤ sizeLine; decide), fun L0 nL0 => ?_⟩
    have sL0 := same_new nL0 (o := .lst [.ref t0])
    have sAll := s0.trans (s1.trans (st0.trans sL0))
    have el0 : ElL st [] (.ref t0) (upd (upd H1 t0 (.tup [.ref b0, .ref D1])) L0 (.lst [.ref t0])) := by
      refine ⟨t0, b0, D1, rfl, sL0 _ _ upd_same, sL0 _ _ (st0 _ _ eb0), sL0 _ _ (st0 _ _ ?_)⟩
      rw [light_nil]
      exact e1
    have eL0 : upd (upd H1 t0 (.tup [.ref b0, .ref D1])) L0 (.lst [.ref t0]) L0 = some (.lst [.ref t0]) := upd_same
    generalize upd (upd H1 t0 (.tup [.ref b0, .ref D1])) L0 (.lst [.ref t0]) = H2 at sAll el0 eL0 ⊢
    refine ⟨fun m σ H' => ∃ (k : Nat) (L : Addr) (v : Option V) (zs : List V), m = st.terms + 2 - k ∧ k ≤ st.terms + 1 ∧ σ = [some (.ref a), some (nV p), some (.ref L), v] ∧ Same H H' ∧ H' L = some (.lst zs) ∧ Each (ElL st) (Vbenag.setsOf k (List.range st.terms)) zs H' ∧
      ∀ j, j < k → ∀ ts ∈ Vbenag.setsOf j (List.range st.terms), (Vbenag.light st ts == [p]) = false, ⟨_, 0, L0, none, [.ref t0], rfl, Nat.zero_le _, rfl, sAll, eL0, ?_, fun j hj => absurd hj (Nat.not_lt_zero _)⟩, ?_⟩
    · rw [setsOf_zero]
      exact Each.nil.snoc el0
    · rintro m σ H' ⟨k, L, v, zs, rfl, hk, rfl, sH, eL, ez, hno⟩
      refine ⟨_, rfl, L, _, rfl, .inl (SqL.of eL), _, _, rfl, rfl, _, rfl, ?_⟩
      refine ite2 (fun q => ?_) fun q => ?_
      · have q : (0 : Int) < (zs.length : Int) := of_decide_eq_true q
        have hkT : k ≤ st.terms := by
          by_cases z : k ≤ st.terms
          · exact z
          · have := setsOf_long (k := k) (l := List.range st.terms) (by rw [List.length_range]; omega)
            rw [this] at ez
            have := ez.1
            rw [List.length_nil] at this
            omega
        refine ⟨fun σ' H'' => ∃ (L : Addr) (v : Option V) (zs : List V), σ' = [some (.ref a), some (nV p), some (.ref L), v] ∧ Same H H'' ∧ H'' L = some (.lst zs) ∧ Each (ElL st) (Vbenag.setsOf (k + 1) (List.range st.terms)) zs H'' ∧
          ∀ j, j < k + 1 → ∀ ts ∈ Vbenag.setsOf j (List.range st.terms), (Vbenag.light st ts == [p]) = false, fun σ' H'' ⟨L, v, zs, h1, h2, h3, h4, h5⟩ => ⟨_, by omega, k + 1, L, v, zs, rfl, by omega, h1, h2, h3, h4, h5⟩, ?_⟩
        refine ⟨_, rfl, L, rfl, ⟨_, SqL.of eL⟩, for_list (K := K) (a := L) (xs := zs) (fun i σ H'' => ∃ v : Option V, σ = [some (.ref a), some (nV p), some (.ref L), v] ∧ Same H' H'' ∧ ∀ ts ∈ (Vbenag.setsOf k (List.range st.terms)).take i, (Vbenag.light st ts == [p]) = false)
          ⟨v, rfl, Same.refl _, (fun ts hts => by rw [List.take_zero] at hts; cases hts)⟩ (fun i σ H'' _ ⟨_, _, s2, _⟩ => SqL.of (s2 _ _ eL)) ?_ ?_⟩
        · rintro i x σ H'' hi ⟨v, rfl, s2, hn⟩
          have hil : i < (Vbenag.setsOf k (List.range st.terms)).length := by rw [← ez.1]; exact (List.getElem?_eq_some_iff.mp hi).1
          have hset := List.getElem?_eq_getElem hil
          generalize (Vbenag.setsOf k (List.range st.terms))[i] = ts at hset
          obtain ⟨t, b1, b2, rfl, et, eb1, eb2⟩ := (ez.2 i ts x hset hi).mono s2
          refine ⟨_, rfl, t, _, _, _, rfl, rfl, SqT.of et, (rfl : atI [V.ref b1, V.ref b2] 1 = some (.ref b2)), _, rfl, (by show 1 ≤ sizeLine; decide), fun pl npl => ?_⟩
          have spl := same_new npl (o := .lst [nV p])
          refine eqL_i (l := Vbenag.light st ts) (m := [p]) (SqL.of (spl _ _ eb2)) (SqL.of upd_same) ⟨_, rfl, ?_⟩
          refine ite2 (fun q => ?_) fun q => ?_
          · refine ⟨_, rfl, t, _, _, _, rfl, rfl, SqT.of (spl _ _ et), (rfl : atI [V.ref b1, V.ref b2] 0 = some (.ref b1)), ?_⟩
            have hm := (mem_setsOf k _ ts).mp (List.mem_of_getElem? hset)
            refine kS _ b1 ts (sH.trans (s2.trans spl)) (find_parts (by rw [List.length_range]; exact hkT) hno hset hn q) (by rw [hm.2]; omega) (spl _ _ eb1)
          · refine ⟨_, rfl, s2.trans spl, fun us hus => ?_⟩
            rw [take_succ_of hset] at hus
            rcases List.mem_append.mp hus with z | z
            · exact hn us z
            · rw [List.mem_singleton.mp z]
              exact Bool.eq_false_iff.mpr q
        · rintro σ H'' ⟨v, rfl, s2, hn⟩
          rw [ez.1, List.take_length] at hn
          have hsl := setsOf_len (List.range st.terms) k
          rw [List.length_range] at hsl
          have h2048 : 2 ^ st.terms ≤ 2 ^ 11 := Nat.pow_le_pow_right (by decide) h11
          refine ⟨_, rfl, _, rfl, a, L, y, st, zs, _, rfl, hF.same (sH.trans s2), s2 _ _ eL, ez.imp fun x v h => h.mono s2, by omega, fun ts hts => ?_, fun H3 D3 ws s3 n3 e3 ew => ?_⟩
          · rw [((mem_setsOf k _ ts).mp hts).2]
            omega
          · rw [grow_sets _ hinc] at ew
            refine ⟨D3, v, ws, rfl, sH.trans (s2.trans s3), e3, ew, fun j hj ts hts => ?_⟩
            by_cases z : j = k
            · subst z
              exact hn ts hts
            · exact hno j (by omega) ts hts
      · have q : ¬ (0 : Int) < (zs.length : Int) := fun z => q (decide_eq_true z)
        have hz : zs.length = 0 := by omega
        have hnil : Vbenag.setsOf k (List.range st.terms) = [] := List.length_eq_zero_iff.mp (by rw [← ez.1]; exact hz)
        exact kN H' sH (find_none hno hnil)
def spAlone (C : Addr) : Sp := fun vs H Q _ => ∃ (a : Addr) (y : Lay) (s : Vbenag.State) (p : Int), vs = [.ref a, .int p] ∧ FileAt C H a y s ∧ CallEnd C a y H Q (Vbenag.step s [[16, p]])
theorem sc_alone : FnScope ["card_file", "place", "terms"] ["card_file", "place"] (defScope s_terms_for_one_place) := ⟨rfl, rfl, rfl, by decide +kernel, rfl, by decide +kernel, by decide +kernel⟩
theorem ok_alone {f : Addr} {fd : FuncData} (F : Fun K "terms_for_one_place" "terms_for_one_place" s_terms_for_one_place f fd) (T : Txt K mg C tc pc)
    (MP : MOk P w K mg base C "is_place" 1 ["self", "number"] (spIsPlace C)) (ML : MOk P w K mg base C "lacks_a_term" 2 ["self"] (spLacks C)) (GF : GOk P w K mg base "first_set_alone" 4 ["card_file", "place"] (spFirst C)) (GN : GOk P w K mg base "counted" 1 ["numbers"] spCounted) :
    FnOk P w K mg base CX0 5 f fd ["card_file", "place"] (spAlone C) := by
  refine F.ok sc_alone (fun vs H Q E h => ?_) (fun cdv A outer s H vs Q E hr h => ?_)
  · obtain ⟨a, y, s, p, rfl, _⟩ := h
    rfl
  · obtain ⟨a, y, st, p, rfl, hF, k⟩ := h
    obtain ⟨_, g1⟩ := T.i1
    obtain ⟨_, g5⟩ := T.i5
    have nd := sc_alone.nd
    have hr1 : Room 1 _ := hr.mono (by decide)
    have hr2 : Room 2 _ := hr.mono (by decide)
    refine ⟨_, pss_cons (ps_if (pt_not (pt_val (pe_m MP T.cl hr1 (pv 0) (pa_cons (pv 1) pa_nil)))) (pss_one (ps_ret (pe_lst (pa_cons (pe_gint rfl g1) pa_nil)))) pss_nil)
      (pss_cons (ps_if (pt_val (pe_m0 ML T.cl hr2 (pv 0))) (pss_one (ps_ret (pe_lst (pa_cons (pe_gint rfl g5) pa_nil)))) pss_nil)
      (pss_cons (ps_set (i := 2) nd rfl (Or.inl rfl) (pe_g GF hr rfl (pa_cons (pv 0) (pa_cons (pv 1) pa_nil))))
      (pss_cons (ps_if (pt_cmpR op_isN (pv 2) pe_non (nomark _)) (pss_one (ps_ret (pe_lst (pa_cons pe_int pa_nil)))) pss_nil)
      (pss_one (ps_ret (pe_op op_cat (pe_lst (pa_cons pe_int pa_nil)) (pe_g GN hr1 rfl (pa_cons (pv 2) pa_nil)))))))), ?_⟩
    rw [step_in (d := .alone p) rfl] at k
    have hin : Vbenag.inRange st (.alone p) = Vbenag.isPlace st p := rfl
    rw [hin] at k
    refine ⟨_, rfl, a, _, _, rfl, hF.obj, rfl, _, rfl, a, y, st, p, rfl, hF, _, rfl, ?_⟩
    by_cases hp : Vbenag.isPlace st p = true
    · rw [hp]
      rw [hp] at k
      obtain ⟨ep, mp⟩ := place_nat hp
      replace k : CallEnd C a y H Q (if Vbenag.lacks st (Vbenag.allTerms st) = true then Vbenag.no st 5 else (st, match Vbenag.alone st p.toNat with | none => [0] | some l => 1 :: Vbenag.listRow l)) := k
      generalize p.toNat = q at ep mp k
      subst ep
      refine iteF ⟨_, rfl, a, _, _, rfl, hF.obj, rfl, a, y, st, rfl, hF, fun H1 s1 => ⟨_, rfl, ?_⟩⟩
      by_cases hl : Vbenag.lacks st (Vbenag.allTerms st) = true
      · rw [hl]
        rw [if_pos hl] at k
        exact iteT ⟨(by show 1 ≤ sizeLine; decide), fun p1 m1 => k.same hF (s1.trans (same_new m1)) (s1.free m1) upd_same⟩
      · rw [Bool.eq_false_iff.mpr hl]
        rw [if_neg hl] at k
        refine iteF ⟨_, rfl, _, rfl, a, y, st, q, rfl, hF.same s1, fun H2 s2 e => ?_, fun H2 b0 ts s2 e htl e1 => ?_⟩
        · rw [e] at k
          have s12 := s1.trans s2
          exact ⟨_, rfl, rfl, _, rfl, iteT ⟨(by show 1 ≤ sizeLine; decide), fun p1 m1 => k.same hF (s12.trans (same_new m1)) (s12.free m1) upd_same⟩⟩
        · rw [e] at k
          have s12 := s1.trans s2
          refine ⟨_, rfl, rfl, _, rfl, iteF ⟨(by show 1 ≤ sizeLine; decide), fun p1 n1 => ?_⟩⟩
          refine ⟨_, rfl, b0, _, rfl, same_new n1 _ _ e1, by rw [List.length_map]; omega, fun H3 D3 s3 n3 e3 => ?_⟩
          refine ⟨p1, D3, _, _, rfl, rfl, s3 _ _ upd_same, e3, ?_, fun D4 n4 => ?_⟩
          · simp only [List.length_cons, List.length_map, List.length_nil, sizeLine_eq]
            omega
          · have s13 : Same H H3 := s12.trans ((same_new n1).trans s3)
            refine k.same hF (s13.trans (same_new n4)) (s13.free n4) ?_
            rw [upd_same, List.length_map]
            show _ = some (HO.lst (V.int 1 :: (Vbenag.listRow ts).map V.int))
            rw [listRow_V]
            rfl
    · rw [Bool.eq_false_iff.mpr hp]
      rw [Bool.eq_false_iff.mpr hp] at k
      exact ⟨(by show 1 ≤ sizeLine; decide), fun p1 n1 => k.same hF (same_new n1) n1 upd_same⟩
end
end Hc
set_option Elab.async false
set_option linter.all false
set_option maxRecDepth 100000
set_option maxHeartbeats 4000000
namespace Hc
open PySem PySem.Spec PyProof.Rows L2
theorem light_mem {s : Vbenag.State} {ts : List Nat} {p : Nat} : p ∈ Vbenag.light s ts ↔ p < s.places ∧ ∀ t ∈ ts, Vbenag.isHole s (Vbenag.cardOf t) p = true := by
  unfold Vbenag.light
  rw [List.mem_filter, List.mem_range, List.all_eq_true]
theorem closed_mem {s : Vbenag.State} {ts : List Nat} {t : Nat} : t ∈ Vbenag.closed s ts ↔ t < s.terms ∧ ∀ p ∈ Vbenag.light s ts, Vbenag.isHole s (Vbenag.cardOf t) p = true := by
  unfold Vbenag.closed Vbenag.common
  rw [List.mem_filter, List.mem_range, List.all_eq_true]
theorem light_closed {s : Vbenag.State} {ts : List Nat} (h : ∀ t ∈ ts, t < s.terms) : Vbenag.light s (Vbenag.closed s ts) = Vbenag.light s ts := by
  refine inc_ext ((inc_range _).filter _) ((inc_range _).filter _) fun p => ?_
  have e : p ∈ Vbenag.light s (Vbenag.closed s ts) ↔ p ∈ Vbenag.light s ts := by
    constructor
    · intro q
      obtain ⟨h1, h2⟩ := light_mem.mp q
      exact light_mem.mpr ⟨h1, fun t ht => h2 t (closed_mem.mpr ⟨h t ht, fun p' hp' => (light_mem.mp hp').2 t ht⟩)⟩
    · intro q
      exact light_mem.mpr ⟨(light_mem.mp q).1, fun t ht => (closed_mem.mp ht).2 p q⟩
  exact e
theorem closed_sub (s : Vbenag.State) (ts : List Nat) : (Vbenag.closed s ts).Sublist (List.range s.terms) := List.filter_sublist
theorem lit_count {s : Vbenag.State} {ks : List (List Nat)} (hn : ks.Nodup) (h : ∀ x, x ∈ ks ↔ ∃ ts, ts.Sublist (List.range s.terms) ∧ x = Vbenag.light s ts) : ks.length = (Vbenag.concepts s).length := by
  have lt : ∀ ts : List Nat, ts.Sublist (List.range s.terms) → ∀ t ∈ ts, t < s.terms := fun ts hs t ht => List.mem_range.mp (hs.subset ht)
  have hc : ∀ ts, ts ∈ Vbenag.concepts s ↔ ts.Sublist (List.range s.terms) ∧ Vbenag.closed s ts = ts := fun ts => by
    unfold Vbenag.concepts
    rw [List.mem_filter, mem_parts, beq_iff_eq]
  have nd1 : ((Vbenag.concepts s).map (Vbenag.light s)).Nodup := by
    have nd0 : (Vbenag.concepts s).Nodup := List.Pairwise.sublist List.filter_sublist (nodup_parts (inc_range _).nodup)
    refine List.pairwise_map.mpr (List.Pairwise.imp_of_mem (fun {a b} ha hb ne e => ne ?_) nd0)
    have h1 := ((hc a).mp ha).2
    have h2 := ((hc b).mp hb).2
    rw [← h1, ← h2]
    unfold Vbenag.closed
    rw [e]
  have hp : ks.Perm ((Vbenag.concepts s).map (Vbenag.light s)) := nodup_perm hn nd1 fun x => by
    rw [h, List.mem_map]
    constructor
    · rintro ⟨ts, hs, rfl⟩
      refine ⟨Vbenag.closed s ts, (hc _).mpr ⟨closed_sub s ts, ?_⟩, light_closed (lt ts hs)⟩
      show Vbenag.common s (Vbenag.light s (Vbenag.closed s ts)) = _
      rw [light_closed (lt ts hs)]
      rfl
    · rintro ⟨ts, hts, rfl⟩
      exact ⟨ts, ((hc ts).mp hts).1, rfl⟩
  rw [hp.length_eq, List.length_map]
def insK (ks : List (List Nat)) (x : List Nat) : List (List Nat) := if x ∈ ks then ks else ks ++ [x]
theorem mem_insK {ks : List (List Nat)} {x y : List Nat} : y ∈ insK ks x ↔ y ∈ ks ∨ y = x := by
  unfold insK
  split
  · rename_i h
    exact ⟨.inl, fun q => q.elim id fun e => by rw [e]; exact h⟩
  · rw [List.mem_append, List.mem_singleton]
theorem nodup_insK {ks : List (List Nat)} {x : List Nat} (h : ks.Nodup) : (insK ks x).Nodup := by
  unfold insK
  split
  · exact h
  · rename_i n
    refine List.nodup_append.mpr ⟨h, List.nodup_cons.mpr ⟨List.not_mem_nil, List.nodup_nil⟩, fun a ha b hb e => ?_⟩
    rw [List.mem_singleton.mp hb] at e
    exact n (by rw [← e]; exact ha)
theorem len_insK (ks : List (List Nat)) (x : List Nat) : (insK ks x).length ≤ ks.length + 1 := by
  unfold insK
  split
  · omega
  · rw [List.length_append]; exact Nat.le_refl _
def addAll (q : Nat → Bool) (l acc : List (List Nat)) : List (List Nat) := l.foldl (fun acc x => insK acc (x.filter q)) acc
theorem addAll_snoc (q : Nat → Bool) (l acc : List (List Nat)) (x : List Nat) : addAll q (l ++ [x]) acc = insK (addAll q l acc) (x.filter q) := by
  unfold addAll
  rw [List.foldl_append]
  rfl
theorem mem_addAll (q : Nat → Bool) : ∀ (l acc : List (List Nat)) (y : List Nat), y ∈ addAll q l acc ↔ y ∈ acc ∨ ∃ x ∈ l, y = x.filter q
  | [], acc, y => by
    show y ∈ acc ↔ _
    exact ⟨.inl, fun h => h.elim id fun ⟨_, h, _⟩ => nomatch h⟩
  | x :: l, acc, y => by
    show y ∈ addAll q l (insK acc (x.filter q)) ↔ _
    rw [mem_addAll q l, mem_insK]
    constructor
    · rintro ((h | h) | ⟨z, h1, h2⟩)
      · exact .inl h
      · exact .inr ⟨x, List.mem_cons_self .., h⟩
      · exact .inr ⟨z, List.mem_cons_of_mem _ h1, h2⟩
    · rintro (h | ⟨z, h1, h2⟩)
      · exact .inl (.inl h)
      · rcases List.mem_cons.mp h1 with e | h1
        · exact .inl (.inr (by rw [h2, e]))
        · exact .inr ⟨z, h1, h2⟩
theorem nodup_addAll (q : Nat → Bool) : ∀ (l acc : List (List Nat)), acc.Nodup → (addAll q l acc).Nodup
  | [], _, h => h
  | x :: l, acc, h => nodup_addAll q l _ (nodup_insK h)
theorem len_addAll (q : Nat → Bool) : ∀ (l acc : List (List Nat)), (addAll q l acc).length ≤ acc.length + l.length
  | [], _ => Nat.le_refl _
  | x :: l, acc => by
    have h1 := len_addAll q l (insK acc (x.filter q))
    have h2 := len_insK acc (x.filter q)
    show (addAll q l (insK acc (x.filter q))).length ≤ _
    rw [List.length_cons]
    omega
def holeQ (s : Vbenag.State) (t : Nat) : Nat → Bool := fun p => Vbenag.isHole s (Vbenag.cardOf t) p
def allK (s : Vbenag.State) : Nat → List (List Nat)
  | 0 => [List.range s.places]
  | n + 1 => addAll (holeQ s n) (allK s n) (allK s n)
theorem sub_snocL {l ts : List Nat} {a : Nat} : ts.Sublist (l ++ [a]) ↔ ts.Sublist l ∨ ∃ us, us.Sublist l ∧ ts = us ++ [a] := by
  rw [List.sublist_append_iff]
  constructor
  · rintro ⟨l1, l2, rfl, h1, h2⟩
    cases l2 with
    | nil => exact .inl (by rw [List.append_nil]; exact h1)
    | cons b r =>
      have hl := h2.length_le
      have hr : r = [] := List.length_eq_zero_iff.mp (by simpa using hl)
      subst hr
      have hb := List.mem_singleton.mp (h2.subset (List.mem_cons_self ..))
      subst hb
      exact .inr ⟨l1, h1, rfl⟩
  · rintro (h | ⟨us, h, rfl⟩)
    · exact ⟨ts, [], (List.append_nil _).symm, h, List.nil_sublist _⟩
    · exact ⟨us, [a], rfl, h, List.Sublist.refl _⟩
theorem allK_mem (s : Vbenag.State) : ∀ (n : Nat) (x : List Nat), x ∈ allK s n ↔ ∃ ts, ts.Sublist (List.range n) ∧ x = Vbenag.light s ts
  | 0, x => by
    show x ∈ [List.range s.places] ↔ _
    rw [List.mem_singleton]
    constructor
    · rintro rfl
      exact ⟨[], List.nil_sublist _, (light_nil s).symm⟩
    · rintro ⟨ts, h, rfl⟩
      rw [List.sublist_nil.mp h, light_nil]
  | n + 1, x => by
    show x ∈ addAll (holeQ s n) (allK s n) (allK s n) ↔ _
    rw [mem_addAll, List.range_succ, allK_mem s n]
    constructor
    · rintro (⟨ts, h, rfl⟩ | ⟨z, hz, rfl⟩)
      · exact ⟨ts, sub_snocL.mpr (.inl h), rfl⟩
      · obtain ⟨ts, h, rfl⟩ := (allK_mem s n z).mp hz
        exact ⟨ts ++ [n], sub_snocL.mpr (.inr ⟨ts, h, rfl⟩), (light_snoc s ts n).symm⟩
    · rintro ⟨ts, h, rfl⟩
      rcases sub_snocL.mp h with h1 | ⟨us, h1, rfl⟩
      · exact .inl ⟨ts, h1, rfl⟩
      · exact .inr ⟨Vbenag.light s us, (allK_mem s n _).mpr ⟨us, h1, rfl⟩, light_snoc s us n⟩
theorem allK_nodup (s : Vbenag.State) : ∀ n, (allK s n).Nodup
  | 0 => List.nodup_cons.mpr ⟨List.not_mem_nil, List.nodup_nil⟩
  | n + 1 => nodup_addAll _ _ _ (allK_nodup s n)
theorem allK_len (s : Vbenag.State) : ∀ n, (allK s n).length ≤ 2 ^ n
  | 0 => Nat.le_refl _
  | n + 1 => by
    have h1 := len_addAll (holeQ s n) (allK s n) (allK s n)
    have h2 := allK_len s n
    show (addAll (holeQ s n) (allK s n) (allK s n)).length ≤ _
    rw [Nat.pow_succ]
    omega
def keyL (ps : List Nat) : List Key := ps.map keyN
theorem keyL_V (ps : List Nat) : (keyL ps).map kV = ps.map nV := by
  unfold keyL
  rw [List.map_map]
  rfl
theorem keyL_inj : ∀ {a b : List Nat}, keyL a = keyL b → a = b
  | [], [], _ => rfl
  | x :: a, y :: b, h => by
    have h : keyN x :: keyL a = keyN y :: keyL b := h
    rw [keyN_inj (List.cons.inj h).1, keyL_inj (List.cons.inj h).2]
  | [], _ :: _, h => by cases h
  | _ :: _, [], h => by cases h
def kvD (ks : List (List Nat)) : List (List Key × V) := ks.map fun ps => (keyL ps, V.bl true)
theorem put_kvD (ks : List (List Nat)) (x : List Nat) : putK (kvD ks) (keyL x) (.bl true) = kvD (insK ks x) := by
  have e : (kvD ks).any (fun kv => decide (kv.1 = keyL x)) = decide (x ∈ ks) := by
    rw [Bool.eq_iff_iff, List.any_eq_true, decide_eq_true_eq]
    constructor
    · rintro ⟨kv, h1, h2⟩
      obtain ⟨ps, hps, rfl⟩ := List.mem_map.mp h1
      rw [← keyL_inj (of_decide_eq_true h2)]
      exact hps
    · intro h
      exact ⟨_, List.mem_map.mpr ⟨x, h, rfl⟩, decide_eq_true rfl⟩
  unfold putK insK
  rw [e]
  by_cases h : x ∈ ks
  · rw [decide_eq_true h, if_pos rfl, if_pos h]
    conv => rhs; rw [← List.map_id (kvD ks)]
    refine List.map_congr_left fun kv hkv => ?_
    obtain ⟨ps, hps, rfl⟩ := List.mem_map.mp hkv
    split
    · rfl
    · rfl
  · rw [decide_eq_false h, if_neg Bool.false_ne_true, if_neg h]
    unfold kvD
    rw [List.map_append]
    rfl
section
variable {P : Program} {w : World} {K : PySem.W.Frag} {mg : Str → Option Value} {base : Heap} {C tc pc : Addr}
def spCountC (C : Addr) : Sp := fun vs H Q _ => ∃ (a : Addr) (y : Lay) (s : Vbenag.State), vs = [.ref a] ∧ FileAt C H a y s ∧ ∀ H', Same H H' → Q (nV (Vbenag.concepts s).length) H'
theorem sc_countC : FnScope ["card_file", "can_shine", "term", "places"] ["card_file"] (defScope s_count_concepts) := ⟨rfl, rfl, rfl, by decide +kernel, rfl, by decide +kernel, by decide +kernel⟩
theorem ok_countC {f : Addr} {fd : FuncData} (F : Fun K "count_concepts" "count_concepts" s_count_concepts f fd) (T : Txt K mg C tc pc) (hT : mg "tuple" = none)
    (MP : MOk P w K mg base C "places" 1 ["self"] (spCards C placesOf)) (MT : MOk P w K mg base C "terms" 1 ["self"] (spCards C termsOf)) (GS : GOk P w K mg base "still_shining" 2 ["card_file", "places", "term"] (spStill K C)) :
    FnOk P w K mg base CX0 3 f fd ["card_file"] (spCountC C) := by
  refine F.ok sc_countC (fun vs H Q E h => ?_) (fun cdv A outer s H vs Q E hr h => ?_)
  · obtain ⟨a, y, s, rfl, _⟩ := h
    rfl
  · obtain ⟨a, y, st, rfl, hF, k⟩ := h
    have nd := sc_countC.nd
    have hr1 : Room 1 _ := hr.mono (by decide)
    refine ⟨_, pss_cons (ps_set (i := 1) nd rfl (Or.inl rfl) (pe_disp1 hr.units0 (pe_callTy call_tuple_of (by rfl) hT PyProof.Rows.boot_tuple (pa_cons (pe_m0 MP T.cl hr1 (pv 0)) pa_nil)) pe_bl))
      (pss_cons (ps_for PassesOwn.never rfl (pi_list (pe_m0 MT T.cl hr1 (pv 0))) (pg_name (i := 2) nd rfl (Or.inl rfl))
        (pss_one (ps_for PassesOwn.never rfl (pi_list (pe_callTy (cr_listDT rfl) (by rfl) T.list PyProof.Rows.boot_list (pa_cons (pv 1) pa_nil))) (pg_name (i := 3) nd rfl (Or.inl rfl))
          (pss_one (ps_dput (hu_of hr) (pv 1) (pe_callTy call_tuple_of (by rfl) hT PyProof.Rows.boot_tuple (pa_cons (pe_g GS hr rfl (pa_cons (pv 0) (pa_cons (pv 3) (pa_cons (pv 2) pa_nil)))) pa_nil)) pe_bl rfl)))))
      (pss_one (ps_ret (pe_callB call_lenDT (by rfl) T.len PySem.boot_len (pa_cons (pv 1) pa_nil))))), ?_⟩
    have h11 := hF.wf.t11
    have h40 := hF.wf.p40
    intro d nd0
    have sd := same_new nd0 (o := .dT [])
    have hFd := hF.same sd
    refine ⟨_, rfl, a, _, _, rfl, hFd.obj, rfl, a, y, st, rfl, hFd, fun H1 D1 s1 n1 e1 => ?_⟩
    refine ⟨D1, _, rfl, .inl ⟨SqL.of e1, fun u nu => ?_⟩⟩
    have su := same_new nu (o := .tup ((placesOf st).map nV))
    have ed : upd H1 u (.tup ((placesOf st).map nV)) d = some (.dT []) := su _ _ (s1 _ _ upd_same)
    refine ⟨u, keyL (placesOf st), rfl, ed, by rw [keyL_V]; exact upd_same, ?_⟩
    have s2 : Same H (upd (upd H1 u (.tup ((placesOf st).map nV))) d (.dT [(keyL (placesOf st), .bl true)])) := same_upd (sd.trans (s1.trans su)) nd0
    have e2 : upd (upd H1 u (.tup ((placesOf st).map nV))) d (.dT [(keyL (placesOf st), .bl true)]) d = some (.dT (kvD (allK st 0))) := upd_same
    generalize upd (upd H1 u (.tup ((placesOf st).map nV))) d (.dT [(keyL (placesOf st), .bl true)]) = H2 at s2 e2 ⊢
    have hF2 := hF.same s2
    refine ⟨_, rfl, a, _, _, rfl, hF2.obj, rfl, a, y, st, rfl, hF2, fun HT DT sT nT eT => ?_⟩
    have dneL : ∀ {H' : Hp} {b : Addr} {xs : List V} {kvs : List (List Key × V)}, H' b = some (.lst xs) → H' d = some (.dT kvs) → b ≠ d := fun h1 h2 => ne_of h1 h2 (by intro z; cases z)
    have dneT : ∀ {H' : Hp} {b : Addr} {xs : List V} {kvs : List (List Key × V)}, H' b = some (.tup xs) → H' d = some (.dT kvs) → b ≠ d := fun h1 h2 => ne_of h1 h2 (by intro z; cases z)
    refine ⟨DT, rfl, ⟨_, SqL.of eT⟩, for_list (K := K) (a := DT) (xs := (termsOf st).map nV) (fun i σ H' => ∃ v2 v3 : Option V, σ = [some (.ref a), some (.ref d), v2, v3] ∧ Same H H' ∧ H' DT = some (.lst ((termsOf st).map nV)) ∧ H' d = some (.dT (kvD (allK st i))))
      ⟨none, none, rfl, s2.trans sT, eT, sT _ _ e2⟩ (fun i σ H' _ ⟨_, _, _, _, e, _⟩ => SqL.of e) ?_ ?_⟩
    · rintro i x σ H' hix ⟨v2, v3, rfl, sH, eDT, ed⟩
      obtain ⟨ti, hti, rfl⟩ := get_map hix
      obtain ⟨hi, rfl⟩ := range_get hti
      refine ⟨_, rfl, d, _, rfl, ed, fun qs l hql hq nl => ?_⟩
      have sl := same_new nl (o := .lst (qs.map V.ref))
      have hkl := allK_len st i
      have h2048 : 2 ^ i ≤ 2 ^ 11 := Nat.pow_le_pow_right (by decide) (by omega)
      have hql' : qs.length = (allK st i).length := by rw [hql]; unfold kvD; rw [List.length_map]
      have hq' : ∀ (j : Nat) (ps : List Nat) (q : Addr), (allK st i)[j]? = some ps → qs[j]? = some q → H' q = some (.tup (ps.map nV)) := fun j ps q h1 h2 => by
        have := hq j (keyL ps) (.bl true) q (by unfold kvD; rw [List.getElem?_map, h1]; rfl) h2
        rw [keyL_V] at this
        exact this
      refine ⟨l, rfl, ⟨_, SqL.of upd_same⟩, for_list (K := K) (a := l) (xs := qs.map V.ref) (fun j σ H'' => ∃ v3 : Option V, σ = [some (.ref a), some (.ref d), some (nV i), v3] ∧ Same H H'' ∧ H'' DT = some (.lst ((termsOf st).map nV)) ∧ H'' l = some (.lst (qs.map V.ref)) ∧
          (∀ (j : Nat) (ps : List Nat) (q : Addr), (allK st i)[j]? = some ps → qs[j]? = some q → H'' q = some (.tup (ps.map nV))) ∧ H'' d = some (.dT (kvD (addAll (holeQ st i) ((allK st i).take j) (allK st i)))))
        ⟨v3, rfl, sH.trans sl, sl _ _ eDT, upd_same, fun j ps q h1 h2 => sl _ _ (hq' j ps q h1 h2), by rw [List.take_zero]; exact sl _ _ ed⟩ (fun i σ H' _ ⟨_, _, _, _, e, _⟩ => SqL.of e) ?_ ?_⟩
      · rintro j x σ H3 hjx ⟨w3, rfl, s3, eDT3, el3, hq3, ed3⟩
        obtain ⟨q, hqj, rfl⟩ := get_map hjx
        have hjl : j < (allK st i).length := by rw [← hql']; exact (List.getElem?_eq_some_iff.mp hqj).1
        have hps := List.getElem?_eq_getElem hjl
        generalize (allK st i)[j] = ps at hps
        obtain ⟨ts, _, hlit⟩ := (allK_mem st i ps).mp (List.mem_of_getElem? hps)
        have hpl : ps.length ≤ 40 := by rw [hlit]; exact light_len hF.wf ts
        have hplt : ∀ p ∈ ps, p < st.places := fun p hp => by rw [hlit] at hp; exact light_lt hp
        refine ⟨_, rfl, _, rfl, _, rfl, _, rfl, a, q, y, st, ps, i, rfl, hF.same s3, .inr (hq3 j ps q hps hqj), by omega, hplt, hi, fun H4 D4 s4 n4 e4 => ?_⟩
        refine ⟨D4, _, rfl, .inl ⟨SqL.of e4, fun u4 nu4 => ?_⟩⟩
        have su4 := same_new nu4 (o := .tup ((ps.filter fun p => Vbenag.isHole st (Vbenag.cardOf i) p).map nV))
        have s34 := s4.trans su4
        have hlen4 : (kvD (addAll (holeQ st i) ((allK st i).take j) (allK st i))).length < sizeLine := by
          unfold kvD
          rw [List.length_map, sizeLine_eq]
          have h1 := len_addAll (holeQ st i) ((allK st i).take j) (allK st i)
          rw [List.length_take] at h1
          omega
        refine ⟨d, _, rfl, DPut.t (k := keyL (ps.filter (holeQ st i))) (s34 _ _ ed3) (by rw [keyL_V]; exact upd_same) hlen4, ?_⟩
        rw [put_kvD, ← addAll_snoc, ← take_succ_of hps]
        refine ⟨_, rfl, same_upd (s3.trans s34) nd0, ?_, ?_, fun j' ps' q' h1 h2 => ?_, upd_same⟩
        · rw [upd_ne (dneL eDT3 ed3)]; exact s34 _ _ eDT3
        · rw [upd_ne (dneL el3 ed3)]; exact s34 _ _ el3
        · have e := hq3 j' ps' q' h1 h2
          rw [upd_ne (dneT e ed3)]; exact s34 _ _ e
      · rintro σ H3 ⟨w3, rfl, s3, eDT3, el3, hq3, ed3⟩
        rw [List.length_map, hql', List.take_length] at ed3
        exact ⟨_, _, rfl, s3, eDT3, ed3⟩
    · rintro σ H' ⟨v2, v3, rfl, sH, eDT, ed⟩
      have hlen : ((termsOf st).map nV).length = st.terms := by rw [List.length_map]; exact List.length_range
      rw [hlen] at ed
      refine ⟨_, rfl, d, _, rfl, ed, ?_⟩
      have e : (kvD (allK st st.terms)).length = (Vbenag.concepts st).length := by
        unfold kvD
        rw [List.length_map]
        exact lit_count (allK_nodup st _) (allK_mem st _)
      rw [e]
      exact k H' sH
def spConcepts (C : Addr) : Sp := fun vs H Q _ => ∃ (a : Addr) (y : Lay) (s : Vbenag.State), vs = [.ref a] ∧ FileAt C H a y s ∧ CallEnd C a y H Q (Vbenag.step s [[17]])
theorem sc_concepts : FnScope ["card_file"] ["card_file"] (defScope s_how_many_concepts) := ⟨rfl, rfl, rfl, by decide +kernel, rfl, by decide +kernel, by decide +kernel⟩
theorem ok_concepts {f : Addr} {fd : FuncData} (F : Fun K "how_many_concepts" "how_many_concepts" s_how_many_concepts f fd) (T : Txt K mg C tc pc)
    (ML : MOk P w K mg base C "lacks_a_term" 2 ["self"] (spLacks C)) (GC : GOk P w K mg base "count_concepts" 3 ["card_file"] (spCountC C)) : FnOk P w K mg base CX0 4 f fd ["card_file"] (spConcepts C) := by
  refine F.ok sc_concepts (fun vs H Q E h => ?_) (fun cdv A outer s H vs Q E hr h => ?_)
  · obtain ⟨a, y, s, rfl, _⟩ := h
    rfl
  · obtain ⟨a, y, st, rfl, hF, k⟩ := h
    obtain ⟨_, g5⟩ := T.i5
    have hr2 : Room 2 _ := hr.mono (by decide)
    refine ⟨_, pss_cons (ps_if (pt_val (pe_m0 ML T.cl hr2 (pv 0))) (pss_one (ps_ret (pe_lst (pa_cons (pe_gint rfl g5) pa_nil)))) pss_nil)
      (pss_one (ps_ret (pe_lst (pa_cons (pe_g GC hr rfl (pa_cons (pv 0) pa_nil)) pa_nil)))), ?_⟩
    replace k : CallEnd C a y H Q (if Vbenag.lacks st (Vbenag.allTerms st) = true then Vbenag.no st 5 else (st, [((Vbenag.concepts st).length : Int)])) := k
    refine ⟨_, rfl, a, _, _, rfl, hF.obj, rfl, a, y, st, rfl, hF, fun H1 s1 => ⟨_, rfl, ?_⟩⟩
    by_cases hl : Vbenag.lacks st (Vbenag.allTerms st) = true
    · rw [hl]
      rw [if_pos hl] at k
      exact iteT ⟨(by show 1 ≤ sizeLine; decide), fun p1 m1 => k.same hF (s1.trans (same_new m1)) (s1.free m1) upd_same⟩
    · rw [Bool.eq_false_iff.mpr hl]
      rw [if_neg hl] at k
      refine iteF ⟨_, rfl, a, y, st, rfl, hF.same s1, fun H2 s2 => ⟨(by show 1 ≤ sizeLine; decide), fun p1 m1 => ?_⟩⟩
      have s12 := s1.trans s2
      exact k.same hF (s12.trans (same_new m1)) (s12.free m1) upd_same
end
end Hc
set_option Elab.async false
set_option linter.all false
set_option maxRecDepth 100000
set_option maxHeartbeats 4000000
namespace Hc
open PySem PySem.Spec PyProof.Rows L2
theorem tC_i {v : V} {σ : L2.St} {H : Hp} {Q : VK} (h : Q v H) : tC v σ H Q := h
theorem whole_id (c : List (List Int)) : PyVbenag.whole c = c := by
  unfold PyVbenag.whole
  split <;> rfl
def names : List String := ["file", "item", "light", "found", "term", "itemcard", "check", "toggle", "lose", "unread", "wrong", "mend", "unlike", "anew", "common", "closed", "alone", "concepts", "further", "counts", "clear"]
def nums : List Nat := [2, 1, 0, 0, 1, 1, 1, 2, 1, 0, 0, 0, 0, 1, 0, 0, 1, 0, 0, 0, 0]
def rowsN : List Nat := [0, 1, 1, 1, 0, 0, 0, 0, 0, 0, 0, 0, 0, 0, 1, 1, 0, 0, 1, 0, 0]
theorem shape_none {p : Int} (h : ∀ q : Nat, q < 21 → p ≠ (q : Int)) : PyVbenag.shape p = none := by
  unfold PyVbenag.shape
  rw [if_neg (show ¬ p = 0 from h 0 (by decide)), if_neg (show ¬ p = 1 from h 1 (by decide)), if_neg (show ¬ p = 2 from h 2 (by decide)), if_neg (show ¬ p = 3 from h 3 (by decide)), if_neg (show ¬ p = 4 from h 4 (by decide)), if_neg (show ¬ p = 5 from h 5 (by decide)), if_neg (show ¬ p = 6 from h 6 (by decide)), if_neg (show ¬ p = 7 from h 7 (by decide)), if_neg (show ¬ p = 8 from h 8 (by decide)), if_neg (show ¬ p = 9 from h 9 (by decide)), if_neg (show ¬ p = 10 from h 10 (by decide)), if_neg (show ¬ p = 11 from h 11 (by decide)), if_neg (show ¬ p = 12 from h 12 (by decide)), if_neg (show ¬ p = 13 from h 13 (by decide)), if_neg (show ¬ p = 14 from h 14 (by decide)), if_neg (show ¬ p = 15 from h 15 (by decide)), if_neg (show ¬ p = 16 from h 16 (by decide)), if_neg (show ¬ p = 17 from h 17 (by decide)), if_neg (show ¬ p = 18 from h 18 (by decide)), if_neg (show ¬ p = 19 from h 19 (by decide)), if_neg (show ¬ p = 20 from h 20 (by decide))]
theorem shape_at : ∀ q : Nat, q < 21 → PyVbenag.shape (q : Int) = some (nums.getD q 0, rowsN.getD q 0) := by decide
theorem shape_is {p : Int} {n k : Nat} (h : PyVbenag.shape p = some (n, k)) : ∃ q : Nat, q < 21 ∧ p = (q : Int) ∧ nums.getD q 0 = n ∧ rowsN.getD q 0 = k := by
  by_cases hp : ∃ q : Nat, q < 21 ∧ p = (q : Int)
  · obtain ⟨q, hq, rfl⟩ := hp
    rw [shape_at q hq] at h
    obtain ⟨e1, e2⟩ := Prod.mk.inj (Option.some.inj h)
    exact ⟨q, hq, rfl, e1, e2⟩
  · rw [shape_none fun q hq e => hp ⟨q, hq, e⟩] at h
    cases h
theorem rowsN_le : ∀ q, q < 21 → rowsN.getD q 0 = 0 ∨ rowsN.getD q 0 = 1 := by decide
theorem call_is {p : Int} {r : List Int} {c : List (List Int)} {t : List Int} (h : PyFlat.call PyVbenag.shape (p :: r) = some (c, t)) : ∃ q : Nat, q < 21 ∧ p = (q : Int) ∧ nums.getD q 0 ≤ r.length ∧
    ((rowsN.getD q 0 = 0 ∧ c = [p :: r.take (nums.getD q 0)] ∧ t = r.drop (nums.getD q 0)) ∨
      (rowsN.getD q 0 = 1 ∧ ∃ (m : Nat) (r' : List Int), r.drop (nums.getD q 0) = (m : Int) :: r' ∧ m ≤ r'.length ∧ c = [p :: r.take (nums.getD q 0), r'.take m] ∧ t = r'.drop m)) := by
  have h : (match PyVbenag.shape p with
    | none => none
    | some (n, k) => if r.length < n then none else match PyFlat.rows k (r.drop n) with
      | none => none
      | some (xs, t) => some ((p :: r.take n) :: xs, t)) = some (c, t) := h
  cases e : PyVbenag.shape p with
  | none => rw [e] at h; cases h
  | some nk =>
    obtain ⟨n, k⟩ := nk
    rw [e] at h
    obtain ⟨q, hq, rfl, hn, hk⟩ := shape_is e
    have h : (if r.length < n then none else match PyFlat.rows k (r.drop n) with
      | none => none
      | some (xs, t) => some (((q : Int) :: r.take n) :: xs, t)) = some (c, t) := h
    by_cases hl : r.length < n
    · rw [if_pos hl] at h; cases h
    · rw [if_neg hl] at h
      subst hn
      subst hk
      refine ⟨q, hq, rfl, by omega, ?_⟩
      rcases rowsN_le q hq with z | z
      · rw [z] at h
        obtain ⟨e1, e2⟩ := Prod.mk.inj (Option.some.inj (show some (((q : Int) :: r.take (nums.getD q 0)) :: [], r.drop (nums.getD q 0)) = some (c, t) from h))
        exact .inl ⟨z, e1.symm, e2.symm⟩
      · rw [z] at h
        refine .inr ⟨z, ?_⟩
        cases hd : r.drop (nums.getD q 0) with
        | nil => rw [hd] at h; cases h
        | cons m r' =>
          rw [hd] at h
          by_cases hm : 0 ≤ m ∧ m.toNat ≤ r'.length
          · have e3 : PyFlat.rows 1 (m :: r') = some ([r'.take m.toNat], r'.drop m.toNat) := by
              show (match (if 0 ≤ m ∧ m.toNat ≤ r'.length then some (r'.take m.toNat, r'.drop m.toNat) else none) with
                | none => none
                | some (x, s) => match some (([] : List (List Int)), s) with
                  | none => none
                  | some (xs, t) => some (x :: xs, t)) = _
              rw [if_pos hm]
            rw [e3] at h
            obtain ⟨e1, e2⟩ := Prod.mk.inj (Option.some.inj (show some (((q : Int) :: r.take (nums.getD q 0)) :: [r'.take m.toNat], r'.drop m.toNat) = some (c, t) from h))
            exact ⟨m.toNat, r', by rw [show ((m.toNat : Nat) : Int) = m by omega], hm.2, e1.symm, e2.symm⟩
          · have e3 : PyFlat.rows 1 (m :: r') = none := by
              show (match (if 0 ≤ m ∧ m.toNat ≤ r'.length then some (r'.take m.toNat, r'.drop m.toNat) else none) with
                | none => none
                | some (x, s) => match some (([] : List (List Int)), s) with
                  | none => none
                  | some (xs, t) => some (x :: xs, t)) = _
              rw [if_neg hm]
            rw [e3] at h
            cases h
theorem calls_cons {f : Nat} {p : Int} {r : List Int} {cs : List (List (List Int))} (h : PyFlat.calls PyVbenag.shape f (p :: r) = some cs) : ∃ f' c t cs', f = f' + 1 ∧ PyFlat.call PyVbenag.shape (p :: r) = some (c, t) ∧ PyFlat.calls PyVbenag.shape f' t = some cs' ∧ cs = c :: cs' := by
  cases f with
  | zero => cases h
  | succ f =>
    have h : (match PyFlat.call PyVbenag.shape (p :: r) with
      | none => none
      | some (c, t) => match PyFlat.calls PyVbenag.shape f t with
        | none => none
        | some cs => some (c :: cs)) = some cs := h
    cases e : PyFlat.call PyVbenag.shape (p :: r) with
    | none => rw [e] at h; cases h
    | some ct =>
      obtain ⟨c, t⟩ := ct
      rw [e] at h
      have h : (match PyFlat.calls PyVbenag.shape f t with
        | none => none
        | some cs => some (c :: cs)) = some cs := h
      cases e2 : PyFlat.calls PyVbenag.shape f t with
      | none => rw [e2] at h; cases h
      | some cs' =>
        rw [e2] at h
        exact ⟨f, c, t, cs', rfl, rfl, e2, (Option.some.inj h).symm⟩
theorem calls_nil {f : Nat} {cs : List (List (List Int))} (h : PyFlat.calls PyVbenag.shape f [] = some cs) : cs = [] := by
  cases f <;> exact (Option.some.inj h).symm
def strOf (q : Nat) : Str := Str.ofString (names.getD q "")
def ElC (H0 : Hp) (c : List (List Int)) (v : V) (H : Hp) : Prop := ∃ (t nb rb : Addr) (q : Nat) (as row : List Int), (H0 t = none ∧ H0 nb = none ∧ H0 rb = none) ∧ v = .ref t ∧ H t = some (.tup [.str (strOf q), .ref nb, .ref rb]) ∧ H nb = some (.lst (as.map V.int)) ∧ H rb = some (.lst (row.map V.int)) ∧
  q < 21 ∧ as.length = nums.getD q 0 ∧ ((rowsN.getD q 0 = 0 ∧ c = [(q : Int) :: as]) ∨ (rowsN.getD q 0 = 1 ∧ c = [(q : Int) :: as, row]))
theorem ElC.mono {H0 : Hp} (c : List (List Int)) (v : V) (H H' : Hp) (s : Same H H') (h : ElC H0 c v H) : ElC H0 c v H' := by
  obtain ⟨t, nb, rb, q, as, row, h0, h1, h2, h3, h4, h5⟩ := h
  exact ⟨t, nb, rb, q, as, row, h0, h1, s _ _ h2, s _ _ h3, s _ _ h4, h5⟩
structure ShOk (P : Program) (w : World) (K : PySem.W.Frag) (mg : Str → Option Value) (sd : Addr) : Prop where
  g : mg "SHAPES" = some (.ref sd)
  ex : ∃ kvs, ModD P w K sd kvs ∧ ∀ q, q < 21 → ∃ t, valV kvs (keyN q) = some (.ref t) ∧ ∀ H, SqT K H t [.str (strOf q), nV (nums.getD q 0), .bl (rowsN.getD q 0 == 1)]
theorem cut_mid {xs : List V} {a b : Nat} (h1 : a ≤ b) (h2 : b ≤ xs.length) : cutV xs (some (a : Int)) (some (b : Int)) = (xs.drop a).take (b - a) := by
  unfold cutV
  rw [HT.sIx_nat, HT.sIx_nat, Nat.min_eq_left (show a ≤ xs.length by omega), Nat.min_eq_left h2]
section
variable {P : Program} {w : World} {K : PySem.W.Frag} {mg : Str → Option Value} {base : Heap} {C tc pc sd : Addr}
def spSplit (K : PySem.W.Frag) : Sp := fun vs H Q _ => ∃ (b : Addr) (ns : List Int) (cs : List (List (List Int))), vs = [.ref b] ∧ SqL K H b (ns.map V.int) ∧ ns.length ≤ 16000 ∧ PyFlat.calls PyVbenag.shape ns.length ns = some cs ∧
  ∀ H' D ys, Same H H' → H D = none → H' D = some (.lst ys) → Each (ElC H) cs ys H' → Q (.ref D) H'
theorem sc_split : FnScope ["calls", "apart", "position", "shape", "numbers_end", "numbers", "row"] ["calls"] (defScope s_split_calls) := ⟨rfl, rfl, rfl, by decide +kernel, rfl, by decide +kernel, by decide +kernel⟩
theorem drop_cons {l r : List Int} {n : Nat} {p : Int} (h : l.drop n = p :: r) : l[n]? = some p ∧ l.drop (n + 1) = r ∧ n + 1 + r.length = l.length := by
  have h1 : l[n]? = some p := by
    have : (l.drop n)[0]? = (p :: r)[0]? := by rw [h]
    rw [List.getElem?_drop] at this
    exact this
  have h2 : l.drop (n + 1) = r := by
    rw [show l.drop (n + 1) = (l.drop n).drop 1 by rw [List.drop_drop], h]
    rfl
  have h3 := congrArg List.length h
  rw [List.length_drop, List.length_cons] at h3
  exact ⟨h1, h2, by omega⟩
def ElD (D : Addr) (H0 : Hp) (c : List (List Int)) (v : V) (H : Hp) : Prop := ∃ (t nb rb : Addr) (q : Nat) (as row : List Int), (t ≠ D ∧ nb ≠ D ∧ rb ≠ D) ∧ (H0 t = none ∧ H0 nb = none ∧ H0 rb = none) ∧ v = .ref t ∧ H t = some (.tup [.str (strOf q), .ref nb, .ref rb]) ∧ H nb = some (.lst (as.map V.int)) ∧ H rb = some (.lst (row.map V.int)) ∧
  q < 21 ∧ as.length = nums.getD q 0 ∧ ((rowsN.getD q 0 = 0 ∧ c = [(q : Int) :: as]) ∨ (rowsN.getD q 0 = 1 ∧ c = [(q : Int) :: as, row]))
theorem ElD.keep {D : Addr} {H0 : Hp} {c : List (List Int)} {v : V} {H H' : Hp} (s : ∀ b o, H b = some o → b ≠ D → H' b = some o) (h : ElD D H0 c v H) : ElD D H0 c v H' := by
  obtain ⟨t, nb, rb, q, as, row, ⟨n1, n2, n3⟩, h0, h1, h2, h3, h4, h5⟩ := h
  exact ⟨t, nb, rb, q, as, row, ⟨n1, n2, n3⟩, h0, h1, s _ _ h2 n1, s _ _ h3 n2, s _ _ h4 n3, h5⟩
theorem ElD.el {D : Addr} {H0 : Hp} {c : List (List Int)} {v : V} {H : Hp} (h : ElD D H0 c v H) : ElC H0 c v H := by
  obtain ⟨t, nb, rb, q, as, row, _, h0, h1, h2, h3, h4, h5⟩ := h
  exact ⟨t, nb, rb, q, as, row, h0, h1, h2, h3, h4, h5⟩
def SplitInv (ns : List Int) (cs : List (List (List Int))) (b D : Addr) (H : Hp) (σ : L2.St) (H' : Hp) : Prop := ∃ (pos : Nat) (v3 v4 v5 v6 : Option V) (ys : List V) (done todo : List (List (List Int))) (f : Nat), σ = [some (.ref b), some (.ref D), some (nV pos), v3, v4, v5, v6] ∧ pos ≤ ns.length ∧ Same H H' ∧ H' D = some (.lst ys) ∧ cs = done ++ todo ∧ Each (ElD D H) done ys H' ∧
  ys.length ≤ pos ∧ PyFlat.calls PyVbenag.shape f (ns.drop pos) = some todo
theorem ok_split {f : Addr} {fd : FuncData} (F : Fun K "split_calls" "split_calls" s_split_calls f fd) (T : Txt K mg C tc pc) (S : ShOk P w K mg sd) : FnOk P w K mg base CX0 1 f fd ["calls"] (spSplit K) := by
  refine F.ok sc_split (fun vs H Q E h => ?_) (fun cdv A outer s H vs Q E hr h => ?_)
  · obtain ⟨b, ns, cs, rfl, _⟩ := h
    rfl
  · obtain ⟨b, ns, cs, rfl, hb, hl, hc, k⟩ := h
    have nd := sc_split.nd
    obtain ⟨kvs, M, hS⟩ := S.ex
    refine ⟨_, pss_cons (ps_set (i := 1) nd rfl (Or.inl rfl) (pe_lst pa_nil))
      (pss_cons (ps_set (i := 2) nd rfl (Or.inl rfl) pe_int)
      (pss_cons (ps_while PassesOwn.never (pt_cmpR op_lt (pv 2) (pe_callB call_len_seq (by rfl) T.len PySem.boot_len (pa_cons (pv 0) pa_nil)) (nomark _))
        (pss_cons (ps_set (i := 3) nd rfl (Or.inl rfl) (pe_dgetM M (pe_gref rfl S.g) (pe_ix ix_list (pv 0) (pv 2) (fun _ _ => rfl)) (fun _ _ => rfl)))
        (pss_cons (ps_set (i := 4) nd rfl (Or.inl rfl) (pe_op op_add (pe_op op_add (pv 2) pe_int) (pe_ix ix_tup (pv 3) pe_int (fun _ _ => rfl))))
        (pss_cons (ps_set (i := 5) nd rfl (Or.inl rfl) (pe_slice sl_list (pv 0) (po_some (pe_op op_add (pv 2) pe_int)) (po_some (pv 4))))
        (pss_cons (ps_set (i := 6) nd rfl (Or.inl rfl) (pe_lst pa_nil))
        (pss_cons (ps_set (i := 2) nd rfl (Or.inl rfl) (pv 4))
        (pss_cons (ps_if (pt_val (pe_ix ix_tup (pv 3) pe_int (fun _ _ => rfl)))
          (pss_cons (ps_set (i := 2) nd rfl (Or.inl rfl) (pe_op op_add (pe_op op_add (pv 4) pe_int) (pe_ix ix_list (pv 0) (pv 4) (fun _ _ => rfl))))
          (pss_one (ps_set (i := 6) nd rfl (Or.inl rfl) (pe_slice sl_list (pv 0) (po_some (pe_op op_add (pv 4) pe_int)) (po_some (pv 2)))))) pss_nil)
        (pss_one (ps_expr (pe_bm PySem.F.plainAttrs_list PySem.F.slot_list_append PySem.F.type_list_append mt_append (pv 1)
          (pa_cons (pe_tup (pa_cons (pe_ix ix_tup (pv 3) pe_int (fun _ _ => rfl)) (pa_cons (pv 5) (pa_cons (pv 6) pa_nil)))) pa_nil)))))))))))
      (pss_one (ps_ret (pv 1))))), ?_⟩
    refine tSet_i ⟨(by show 0 ≤ sizeLine; decide), fun D nD => ?_⟩
    refine tSet_i (tC_i (tSeq_i ?_))
    refine while_by (SplitInv ns cs b D H)
      (fun σ _ => ns.length - (match σ[2]? with | some (some (V.int p)) => p.toNat | _ => 0))
      ⟨0, none, none, none, none, [], [], cs, ns.length, rfl, Nat.zero_le _, same_new nD, upd_same, rfl, Each.nil, Nat.le_refl _, hc⟩ ?_
      (fun σ H Q Q' h ⟨v, h1, v0, h2, p, ys, h3, h4, i, j, h5, h6, k, h7, q⟩ => ⟨v, h1, v0, h2, p, ys, h3, h4, i, j, h5, h6, k, h7, h _ _ q⟩)
    rintro σ H' ⟨pos, v3, v4, v5, v6, ys, done, todo, f0, rfl, hpos, sH, eD, ecs, ed, hyl, hcd⟩
    refine ⟨_, rfl, _, rfl, b, _, rfl, .inl (sH.seq hb), _, _, rfl, rfl, _, rfl, ?_⟩
    rw [List.length_map]
    refine ite2 (fun q => ?_) fun q => ?_
    · have q : ((pos : Nat) : Int) < (ns.length : Int) := of_decide_eq_true q
      cases hd : ns.drop pos with
      | nil =>
        have := congrArg List.length hd
        rw [List.length_drop, List.length_nil] at this
        omega
      | cons p r =>
        rw [hd] at hcd
        obtain ⟨f', c, t, cs', rfl, hcall, hrest, rfl⟩ := calls_cons hcd
        obtain ⟨g1, g2, g3⟩ := drop_cons hd
        obtain ⟨qq, hq21, rfl, hn, hcase⟩ := call_is hcall
        obtain ⟨tt, ht, hsq⟩ := hS qq hq21
        have hat : atI (ns.map V.int) ((pos : Nat) : Int) = some (.int (qq : Int)) := atI_nat (by rw [List.getElem?_map, g1]; rfl)
        have fin : ∀ (H5 : Hp) (p1 rb u : Addr) (row : List Int) (pos' : Nat) (v3 v4 v5 v6 : Option V), Same H' H5 → p1 ≠ D → rb ≠ D → H' p1 = none → H' rb = none → H5 p1 = some (.lst ((r.take (nums.getD qq 0)).map V.int)) → H5 rb = some (.lst (row.map V.int)) → H5 u = none → pos < pos' → pos' ≤ ns.length → ns.drop pos' = t →
            ((rowsN.getD qq 0 = 0 ∧ c = [(qq : Int) :: r.take (nums.getD qq 0)]) ∨ (rowsN.getD qq 0 = 1 ∧ c = [(qq : Int) :: r.take (nums.getD qq 0), row])) →
            SplitInv ns cs b D H [some (.ref b), some (.ref D), some (nV pos'), v3, v4, v5, v6] (upd (upd H5 u (.tup [.str (strOf qq), .ref p1, .ref rb])) D (.lst (ys ++ [.ref u]))) := by
          intro H5 p1 rb u row pos' v3 v4 v5 v6 s5 m1 m2 m3 m4 e1 e2 nu hp1 hp2 hdt hsh
          have su : Same H5 (upd H5 u (.tup [.str (strOf qq), .ref p1, .ref rb])) := same_new nu
          have uD : u ≠ D := fun z => by rw [z, s5 _ _ eD] at nu; cases nu
          have kp : ∀ b o, H5 b = some o → b ≠ D → upd (upd H5 u (.tup [.str (strOf qq), .ref p1, .ref rb])) D (.lst (ys ++ [.ref u])) b = some o := fun b o e n => by rw [upd_ne n]; exact su _ _ e
          refine ⟨pos', v3, v4, v5, v6, ys ++ [.ref u], done ++ [c], cs', f', rfl, hp2, same_upd (sH.trans (s5.trans su)) nD, upd_same, by rw [ecs, List.append_assoc]; rfl, ?_, by rw [List.length_append]; show _ + 1 ≤ _; omega, by rw [hdt]; exact hrest⟩
          refine (ed.imp fun c v h => h.keep fun b o e n => kp b o (s5 _ _ e) n).snoc ?_
          exact ⟨u, p1, rb, qq, r.take (nums.getD qq 0), row, ⟨uD, m1, m2⟩, ⟨sH.free (s5.free nu), sH.free m3, sH.free m4⟩, rfl, by rw [upd_ne uD]; exact upd_same, kp _ _ e1 m1, kp _ _ e2 m2, hq21, by rw [List.length_take]; omega, hsh⟩
        refine ⟨_, rfl, _, rfl, b, _, _, _, rfl, rfl, sH.seq hb, hat, keyN qq, _, rfl, rfl, ht, ?_⟩
        generalize hnn : nums.getD qq 0 = n at hn hcase hsq fin
        generalize hrr : rowsN.getD qq 0 = rn at hcase hsq fin
        refine ⟨_, rfl, _, _, rfl, rfl, _, rfl, tt, _, _, _, rfl, rfl, hsq _, (rfl : atI [V.str (strOf qq), nV n, V.bl (rn == 1)] 1 = some (nV n)), _, _, rfl, rfl, ?_⟩
        have e1 : (((pos : Nat) : Int) + 1 + ((n : Nat) : Int)) = ((pos + 1 + n : Nat) : Int) := by omega
        dsimp only
        rw [e1]
        refine ⟨_, rfl, _, rfl, _, _, rfl, rfl, _, rfl, _, rfl, _, rfl, b, _, rfl, sH.seq hb, fun p1 n1 => ?_⟩
        have e2 : (((pos : Nat) : Int) + 1) = ((pos + 1 : Nat) : Int) := by omega
        dsimp only
        rw [e2, cut_mid (by omega) (by rw [List.length_map]; omega), ← List.map_drop, ← List.map_take, g2, show pos + 1 + n - (pos + 1) = n by omega]
        refine ⟨(by show 0 ≤ sizeLine; decide), fun p2 n2 => ?_⟩
        refine ⟨_, rfl, ?_⟩
        have sB : Same H' (upd (upd H' p1 (.lst ((r.take n).map V.int))) p2 (.lst [])) := (same_new n1).trans (same_new n2)
        have eB1 : upd (upd H' p1 (.lst ((r.take n).map V.int))) p2 (.lst []) p1 = some (.lst ((r.take n).map V.int)) := same_new n2 _ _ upd_same
        have eB2 : upd (upd H' p1 (.lst ((r.take n).map V.int))) p2 (.lst []) p2 = some (.lst (([] : List Int).map V.int)) := upd_same
        have p1D : p1 ≠ D := fun z => by rw [z, eD] at n1; cases n1
        have p2D : p2 ≠ D := fun z => by rw [z, same_new n1 (o := .lst ((r.take n).map V.int)) _ _ eD] at n2; cases n2
        have n2' : H' p2 = none := (same_new n1 (o := .lst ((r.take n).map V.int))).free n2
        generalize upd (upd H' p1 (.lst ((r.take n).map V.int))) p2 (.lst []) = HB at sB eB1 eB2
        have eDB := sB _ _ eD
        have hysl : ys.length < sizeLine := by rw [sizeLine_eq]; omega
        have hgd : ns.drop (pos + 1 + n) = r.drop n := by rw [← g2, List.drop_drop]
        refine ⟨_, rfl, tt, _, _, _, rfl, rfl, hsq _, (rfl : atI [V.str (strOf qq), nV n, V.bl (rn == 1)] 2 = some (.bl (rn == 1))), _, rfl, ?_⟩
        rcases hcase with ⟨rfl, hc1, hc2⟩ | ⟨rfl, m, r', hm1, hm2, hc1, hc2⟩
        · refine iteF ?_
          refine ⟨_, rfl, .inl ⟨rfl, _, SqL.of eDB⟩, _, rfl, tt, _, _, _, rfl, rfl, hsq _, (rfl : atI [V.str (strOf qq), nV n, V.bl (0 == 1)] 0 = some (.str (strOf qq))), _, rfl, _, rfl, (by show 3 ≤ sizeLine; decide), fun u nu => ?_⟩
          refine ⟨D, _, _, rfl, rfl, same_new nu _ _ eDB, hysl, ?_, ?_⟩
          · exact fin HB p1 p2 u [] (pos + 1 + n) _ _ _ _ sB p1D p2D n1 n2' eB1 eB2 nu (by omega) (by omega) (hgd.trans hc2.symm) (.inl ⟨rfl, hc1⟩)
          · show ns.length - (pos + 1 + n) < ns.length - pos
            omega
        · refine iteT ?_
          obtain ⟨w1, w2, w3⟩ := drop_cons (hgd.trans hm1)
          have hat2 : atI (ns.map V.int) ((pos + 1 + n : Nat) : Int) = some (.int (m : Int)) := atI_nat (by rw [List.getElem?_map, w1]; rfl)
          refine ⟨_, rfl, _, _, rfl, rfl, _, rfl, _, rfl, b, _, _, _, rfl, rfl, (sH.trans sB).seq hb, hat2, _, _, rfl, rfl, ?_⟩
          have e3 : (((pos + 1 + n : Nat) : Int) + 1 + ((m : Nat) : Int)) = ((pos + 1 + n + 1 + m : Nat) : Int) := by omega
          dsimp only
          rw [e3]
          refine ⟨_, rfl, _, rfl, _, _, rfl, rfl, _, rfl, _, rfl, _, rfl, b, _, rfl, (sH.trans sB).seq hb, fun p3 n3 => ?_⟩
          have e4 : (((pos + 1 + n : Nat) : Int) + 1) = ((pos + 1 + n + 1 : Nat) : Int) := by omega
          dsimp only
          rw [e4, cut_mid (by omega) (by rw [List.length_map]; omega), ← List.map_drop, ← List.map_take, w2, show pos + 1 + n + 1 + m - (pos + 1 + n + 1) = m by omega]
          have s3 := same_new n3 (o := .lst ((r'.take m).map V.int))
          have p3D : p3 ≠ D := fun z => by rw [z, eDB] at n3; cases n3
          refine ⟨_, rfl, .inl ⟨rfl, _, SqL.of (s3 _ _ eDB)⟩, _, rfl, tt, _, _, _, rfl, rfl, hsq _, (rfl : atI [V.str (strOf qq), nV n, V.bl (1 == 1)] 0 = some (.str (strOf qq))), _, rfl, _, rfl, (by show 3 ≤ sizeLine; decide), fun u nu => ?_⟩
          refine ⟨D, _, _, rfl, rfl, same_new nu _ _ (s3 _ _ eDB), hysl, ?_, ?_⟩
          · refine fin _ p1 p3 u (r'.take m) (pos + 1 + n + 1 + m) _ _ _ _ (sB.trans s3) p1D p3D n1 (sB.free n3) (s3 _ _ eB1) upd_same nu (by omega) (by omega) ?_ (.inr ⟨rfl, hc1⟩)
            rw [hc2, ← w2, List.drop_drop]
          · show ns.length - (pos + 1 + n + 1 + m) < ns.length - pos
            omega
    · have q : ¬ ((pos : Nat) : Int) < (ns.length : Int) := fun z => q (decide_eq_true z)
      have hnil : ns.drop pos = [] := List.drop_eq_nil_of_le (by omega)
      rw [hnil] at hcd
      have := calls_nil hcd
      subst this
      rw [List.append_nil] at ecs
      subst ecs
      exact ⟨_, rfl, k H' D ys sH nD eD (ed.imp fun c v h => h.el)⟩
end
end Hc
set_option Elab.async false
set_option linter.all false
set_option maxRecDepth 100000
set_option maxHeartbeats 4000000
namespace Hc
open PySem PySem.Spec PyProof.Rows L2
abbrev Raw := List (List (List Int))
def runS (s : Vbenag.State) (cs : Raw) : Vbenag.State := cs.foldl (fun s c => (Vbenag.step s c).1) s
theorem played_append : ∀ (xs ys : Raw) (s : Vbenag.State), PyFlat.played VbenagNeutral.step s (xs ++ ys) = PyFlat.played VbenagNeutral.step s xs ++ PyFlat.played VbenagNeutral.step (runS s xs) ys
  | [], _, _ => rfl
  | c :: xs, ys, s => by
    show _ :: PyFlat.played VbenagNeutral.step (Vbenag.step s c).1 (xs ++ ys) = _ :: (PyFlat.played VbenagNeutral.step (Vbenag.step s c).1 xs ++ _)
    rw [played_append xs ys]
    rfl
def toldOf (cs : Raw) : List Int := PyFlat.told (PyFlat.played VbenagNeutral.step VbenagNeutral.start cs)
theorem told_append (xs ys : List (List Int)) : PyFlat.told (xs ++ ys) = PyFlat.told xs ++ PyFlat.told ys := List.flatMap_append ..
theorem told_next {cs : Raw} {i : Nat} {c : List (List Int)} (h : cs[i]? = some c) :
    toldOf (cs.take (i + 1)) = toldOf (cs.take i) ++ (((Vbenag.step (runS Vbenag.start (cs.take i)) c).2.length : Int) :: (Vbenag.step (runS Vbenag.start (cs.take i)) c).2) ∧ runS Vbenag.start (cs.take (i + 1)) = (Vbenag.step (runS Vbenag.start (cs.take i)) c).1 := by
  rw [take_succ_of h]
  refine ⟨?_, ?_⟩
  · unfold toldOf
    rw [played_append, told_append]
    congr 1
    show PyFlat.told [(Vbenag.step (runS Vbenag.start (cs.take i)) c).2] = _
    unfold PyFlat.told
    rw [List.flatMap_cons, List.flatMap_nil, List.append_nil]
  · unfold runS
    rw [List.foldl_append]
    rfl
theorem told_le (cs : Raw) (i : Nat) : (toldOf (cs.take i)).length ≤ (toldOf cs).length := by
  conv => rhs; rw [← List.take_append_drop i cs]
  unfold toldOf
  rw [played_append, told_append, List.length_append]
  omega
theorem calls_map (ns : List Int) {cs : Raw} (h : PyFlat.calls PyVbenag.shape ns.length ns = some cs) : PyVbenag.answers ns = toldOf cs := by
  have e : cs.map PyVbenag.whole = cs := by
    conv => rhs; rw [← List.map_id cs]
    exact List.map_congr_left fun c _ => whole_id c
  have e2 : PyVbenag.calls ns = some cs := by
    unfold PyVbenag.calls
    rw [h]
    show some (cs.map PyVbenag.whole) = some cs
    rw [e]
  unfold PyVbenag.answers
  rw [e2]
  rfl
theorem asked_is {ns : List Int} (h : PyVbenag.answers_asked ns = true) : ∃ cs, PyFlat.calls PyVbenag.shape ns.length ns = some cs ∧ (toldOf cs).length ≤ 10000000 := by
  unfold PyVbenag.answers_asked at h
  cases e : PyFlat.calls PyVbenag.shape ns.length ns with
  | none => rw [e] at h; cases h
  | some cs =>
    rw [e] at h
    have h : (!cs.isEmpty && PyFlat.atMost 400 cs && PyInside.calls PyVbenag.bound cs && VbenagNeutral.asked (cs.map PyVbenag.whole) && PyFlat.short 10000000 (PyVbenag.answers ns)) = true := h
    rw [Bool.and_eq_true] at h
    refine ⟨cs, rfl, ?_⟩
    rw [← calls_map ns e]
    exact of_decide_eq_true h.2
theorem FileG.out {C : Addr} {H : Hp} {a : Addr} {y : Lay} {s : Vbenag.State} {ls : List Nat} (h : FileG C H a y s ls) {G : Addr} {o : HO} (n : G ∉ foot a y) : FileG C (upd H G o) a y s ls := by
  have k : ∀ b u, b ∈ foot a y → H b = some u → upd H G o b = some u := fun b u hb e => by rw [upd_ne (fun z => n (by rw [← z]; exact hb))]; exact e
  have ow : ∀ b, b ∈ own a y → b ∈ foot a y := fun b hb => List.mem_append_left _ hb
  refine ⟨h.wf, k _ _ (ow _ (by simp [own])) h.obj, k _ _ (by simp [foot]) h.cards, k _ _ (ow _ (by simp [own])) h.holes, h.rlen, fun i c r h1 h2 => k _ _ (ow _ (by simp [own, List.mem_of_getElem? h2])) (h.row i c r h1 h2), h.rnd, k _ _ (ow _ (by simp [own])) h.items, h.clen, h.cellN, fun p b hp => ?_, k _ _ (ow _ (by simp [own])) h.lost, h.losP⟩
  obtain ⟨l, h1, h2⟩ := h.cellS p b hp
  exact ⟨l, h1, k _ _ (List.mem_append_right _ (List.mem_cons_of_mem _ (List.mem_filterMap.mpr ⟨some b, List.mem_of_getElem? hp, rfl⟩))) h2⟩
theorem ElC.chg {H0 : Hp} {C : Addr} {H H' : Hp} {a : Addr} {y y' : Lay} {s : Vbenag.State} (hF : FileAt C H a y s) (g : Chg a y y' H H') {c : List (List Int)} {v : V} (h : ElC H0 c v H) : ElC H0 c v H' := by
  obtain ⟨t, nb, rb, q, as, row, h0, h1, h2, h3, h4, h5⟩ := h
  exact ⟨t, nb, rb, q, as, row, h0, h1, g.frm _ _ h2 (hF.notOwnT h2), g.frm _ _ h3 (hF.notOwn (.inl h3)), g.frm _ _ h4 (hF.notOwn (.inl h4)), h5⟩
theorem ElC.out {H0 H : Hp} {G : Addr} {o o' : HO} (hG : H0 G = some o') {c : List (List Int)} {v : V} (h : ElC H0 c v H) : ElC H0 c v (upd H G o) := by
  obtain ⟨t, nb, rb, q, as, row, ⟨n1, n2, n3⟩, h1, h2, h3, h4, h5⟩ := h
  have ne : ∀ b, H0 b = none → b ≠ G := fun b e z => by rw [z, hG] at e; cases e
  exact ⟨t, nb, rb, q, as, row, ⟨n1, n2, n3⟩, h1, by rw [upd_ne (ne t n1)]; exact h2, by rw [upd_ne (ne nb n2)]; exact h3, by rw [upd_ne (ne rb n3)]; exact h4, h5⟩
section
variable {P : Program} {w : World} {K : PySem.W.Frag} {mg : Str → Option Value} {base : Heap} {C tc pc sd : Addr}
def spCall (C : Addr) : Sp := fun vs H Q _ => ∃ (a nb rb : Addr) (y : Lay) (s : Vbenag.State) (q : Nat) (as row : List Int) (c : List (List Int)), vs = [.ref a, .str (strOf q), .ref nb, .ref rb] ∧ FileAt C H a y s ∧ H nb = some (.lst (as.map V.int)) ∧ H rb = some (.lst (row.map V.int)) ∧
  q < 21 ∧ as.length = nums.getD q 0 ∧ ((rowsN.getD q 0 = 0 ∧ c = [(q : Int) :: as]) ∨ (rowsN.getD q 0 = 1 ∧ c = [(q : Int) :: as, row])) ∧ CallEnd C a y H Q (Vbenag.step s c)
def spAns (K : PySem.W.Frag) : Sp := fun vs H Q _ => ∃ (b : Addr) (ns : List Int), vs = [.ref b] ∧ SqL K H b (ns.map V.int) ∧ ns.length ≤ 16000 ∧ PyVbenag.answers_asked ns = true ∧ ∀ (H' : Hp) (p : Addr), H' p = some (.lst ((PyVbenag.answers ns).map V.int)) → Q (.ref p) H'
theorem sc_answers : FnScope ["calls", "card_file", "given", "call", "answer"] ["calls"] (defScope s_answers) := ⟨rfl, rfl, rfl, by decide +kernel, rfl, by decide +kernel, by decide +kernel⟩
theorem ok_answers {f fI : Addr} {fd fdI : FuncData} {kc ki : Nat} (hkc : kc ≤ 9) (hki : ki ≤ 9) (F : Fun K "answers" "answers" s_answers f fd) (T : Txt K mg C tc pc) (M : Mk K C fI) (bI : Binds K fdI ["self"] []) (GI : FnOk P w K mg base CX0 ki fI fdI ["self"] (spInit C))
    (GS : GOk P w K mg base "split_calls" 1 ["calls"] (spSplit K)) (GC : GOk P w K mg base "answer_call" kc ["card_file", "name", "numbers", "row"] (spCall C)) : FnOk P w K mg base CX0 11 f fd ["calls"] (spAns K) := by
  refine F.ok sc_answers (fun vs H Q E h => ?_) (fun cdv A outer s H vs Q E hr h => ?_)
  · obtain ⟨b, ns, rfl, _⟩ := h
    rfl
  · obtain ⟨b, ns, rfl, hb, hl, hask, k⟩ := h
    obtain ⟨cs, hcs, hlen⟩ := asked_is hask
    rw [calls_map ns hcs] at k
    have nd := sc_answers.nd
    have hr1 : Room 1 _ := hr.mono (by decide)
    have hrc : Room kc _ := hr.mono (by omega)
    have hri : Room (ki + 1) _ := hr.mono (by omega)
    refine ⟨_, pss_cons (ps_set (i := 1) nd rfl (Or.inl rfl) (pe_make0 M GI hri rfl T.mgC bI .nil pass0))
      (pss_cons (ps_set (i := 2) nd rfl (Or.inl rfl) (pe_lst pa_nil))
      (pss_cons (ps_for PassesOwn.never rfl (pi_list (pe_g GS hr1 rfl (pa_cons (pv 0) pa_nil))) (pg_name (i := 3) nd rfl (Or.inl rfl))
        (pss_cons (ps_set (i := 4) nd rfl (Or.inl rfl) (pe_g GC hrc rfl (pa_cons (pv 1) (pa_cons (pe_ix ix_tup (pv 3) pe_int (fun _ _ => rfl)) (pa_cons (pe_ix ix_tup (pv 3) pe_int (fun _ _ => rfl)) (pa_cons (pe_ix ix_tup (pv 3) pe_int (fun _ _ => rfl)) pa_nil))))))
        (pss_cons (ps_expr (pe_bm PySem.F.plainAttrs_list PySem.F.slot_list_append PySem.F.type_list_append mt_append (pv 2) (pa_cons (pe_callB call_len_seq (by rfl) T.len PySem.boot_len (pa_cons (pv 4) pa_nil)) pa_nil)))
        (pss_one (ps_expr (pe_bm PySem.F.plainAttrs_list PySem.F.slot_list_extend PySem.F.type_list_extend mt_extend (pv 2) (pa_cons (pv 4) pa_nil)))))))
      (pss_one (ps_ret (pv 2))))), ?_⟩
    intro a dx na ndx ne
    refine ⟨a, dx, rfl, upd_same, fun H1 y1 hF1 k1 hft1 => ⟨rfl, ?_⟩⟩
    have s1 : Same H H1 := Same.made na ndx k1
    refine ⟨(by show 0 ≤ sizeLine; decide), fun G nG => ?_⟩
    have sG := same_new nG (o := .lst [])
    have hFG := hF1.same sG
    have hH1f : ∀ x ∈ foot a y1, ∃ o, H1 x = some o := fun x hx => by
      rcases List.mem_append.mp hx with z | z
      · exact hF1.tracked z
      · rcases List.mem_cons.mp z with z | z
        · exact ⟨_, by rw [z]; exact hF1.cards⟩
        · obtain ⟨o, ho, e⟩ := List.mem_filterMap.mp z
          cases (show o = some x from e)
          obtain ⟨p, hp⟩ := List.getElem?_of_mem ho
          obtain ⟨l, _, h2⟩ := hF1.cellS p x hp
          exact ⟨_, h2⟩
    have nGf : G ∉ foot a y1 := fun q => by
      obtain ⟨o, e⟩ := hH1f G q
      rw [nG] at e; cases e
    refine ⟨_, rfl, b, ns, cs, rfl, (s1.trans sG).seq hb, hl, hcs, fun H2 DS ys s2 nDS eDS eys => ?_⟩
    have hF2 := hFG.same s2
    have eG2 : H2 G = some (.lst []) := s2 _ _ upd_same
    have eG0 : upd H1 G (.lst []) G = some (.lst []) := upd_same
    have DSo : DS ∉ own a y1 := hFG.free nDS
    have DSG : DS ≠ G := fun z => by rw [z, eG0] at nDS; cases nDS
    refine ⟨DS, rfl, ⟨_, SqL.of eDS⟩, for_list (K := K) (a := DS) (xs := ys) (fun i σ H' => ∃ (v3 v4 : Option V) (y : Lay), σ = [some (.ref b), some (.ref a), some (.ref G), v3, v4] ∧ FileAt C H' a y (runS Vbenag.start (cs.take i)) ∧ G ∉ foot a y ∧ DS ∉ own a y ∧ H' DS = some (.lst ys) ∧
        Each (ElC (upd H1 G (.lst []))) cs ys H' ∧ H' G = some (.lst ((toldOf (cs.take i)).map V.int)))
      ⟨none, none, y1, rfl, hF2, nGf, DSo, eDS, eys, eG2⟩ (fun i σ H' _ ⟨_, _, _, _, _, _, _, e, _⟩ => SqL.of e) ?_ ?_⟩
    · rintro i x σ H' hi ⟨v3, v4, y, rfl, hF, nGf', DSo', eDS', eys', eG'⟩
      have hil : i < cs.length := by rw [← eys'.1]; exact (List.getElem?_eq_some_iff.mp hi).1
      have hc := List.getElem?_eq_getElem hil
      obtain ⟨tn, rn⟩ := told_next hc
      generalize cs[i] = c at hc tn rn
      obtain ⟨t, nb, rb, q, as, row, h0, rfl, ht, hnb, hrb, hq, hal, hsh⟩ := eys'.2 i c x hc hi
      refine ⟨_, rfl, _, rfl, t, _, _, _, rfl, rfl, SqT.of ht, (rfl : atI [V.str (strOf q), V.ref nb, V.ref rb] 0 = some (.str (strOf q))), _, rfl, t, _, _, _, rfl, rfl, SqT.of ht, (rfl : atI [V.str (strOf q), V.ref nb, V.ref rb] 1 = some (.ref nb)),
        _, rfl, t, _, _, _, rfl, rfl, SqT.of ht, (rfl : atI [V.str (strOf q), V.ref nb, V.ref rb] 2 = some (.ref rb)), a, nb, rb, y, _, q, as, row, c, rfl, hF, hnb, hrb, hq, hal, hsh, fun H3 y3 D3 hF3 g3 n3 no3 e3 => ?_⟩
      have oG : G ∉ own a y := fun z => nGf' (List.mem_append_left _ z)
      have eG3 := g3.frm _ _ eG' oG
      have D3G : D3 ≠ G := fun z => by rw [z, eG'] at n3; cases n3
      have nG3 : G ∉ foot a y3 := fun z => (g3.newF G z).elim nGf' fun z => by rw [eG'] at z; cases z
      have nDS3 : DS ∉ own a y3 := fun z => (g3.new DS z).elim DSo' fun z => by rw [eDS'] at z; cases z
      have tle := told_le cs (i + 1)
      rw [tn, List.length_append, List.length_cons] at tle
      refine ⟨_, rfl, .inl ⟨rfl, _, SqL.of eG3⟩, _, rfl, D3, _, rfl, .inl (SqL.of e3), G, _, _, rfl, rfl, eG3, by rw [List.length_map, sizeLine_eq]; omega, ?_⟩
      have eG4 : upd H3 G (.lst ((toldOf (cs.take i)).map V.int ++ [V.int (((Vbenag.step (runS Vbenag.start (cs.take i)) c).2.map V.int).length : Int)])) G = some (.lst ((toldOf (cs.take i)).map V.int ++ [V.int (((Vbenag.step (runS Vbenag.start (cs.take i)) c).2.map V.int).length : Int)])) := upd_same
      refine ⟨_, rfl, .inl ⟨rfl, _, SqL.of eG4⟩, _, rfl, G, D3, _, _, rfl, rfl, eG4, by rw [upd_ne D3G]; exact e3, by rw [List.length_append, List.length_map, List.length_map, sizeLine_eq]; show _ + 1 + _ ≤ _; omega, ?_⟩
      rw [upd_upd]
      refine ⟨_, _, y3, rfl, ?_, nG3, nDS3, ?_, ?_, ?_⟩
      · rw [rn]
        exact hF3.out nG3
      · rw [upd_ne DSG]
        exact g3.frm _ _ eDS' DSo'
      · exact eys'.imp fun c v h => (h.chg hF g3).out eG0
      · rw [upd_same, tn, List.map_append, List.map_cons, List.append_assoc, List.length_map]
        rfl
    · rintro σ H' ⟨v3, v4, y, rfl, hF, nGf', DSo', eDS', eys', eG'⟩
      rw [eys'.1, List.take_length] at eG'
      exact ⟨_, rfl, k H' G eG'⟩
end
end Hc
set_option Elab.async false
set_option linter.all false
set_option maxRecDepth 100000
set_option maxHeartbeats 4000000
namespace Hc
open PySem PySem.Spec PyProof.Rows L2
theorem str_tab : ∀ q, q < 21 → ∀ r, r < 21 → decide (strOf q = strOf r) = decide (q = r) := by decide +kernel
theorem nameIf {q : Nat} (r : Nat) {j : Nat} {σ : L2.St} {H : Hp} {R : Bool → Hp → Prop} (hq : q < 21) (hr : r < 21) (hv : σ[j]? = some (some (.str (strOf q)))) (h : R (decide (q = r)) H) : tTest (tOp rEq (tVar j) (tC (.str (strOf r)))) σ H R := by
  refine ⟨_, hv, rfl, _, rfl, ?_⟩
  have e : decide (V.str (strOf q) = V.str (strOf r)) = decide (q = r) := by
    rw [← str_tab q hq r hr]
    exact decide_eq_decide.mpr ⟨fun z => V.str.inj z, fun z => by rw [z]⟩
  rw [e]
  exact h
theorem list2 {as : List Int} (h : as.length = 2) : ∃ t p, as = [t, p] := by
  match as, h with
  | [t, p], _ => exact ⟨t, p, rfl⟩
theorem list1 {as : List Int} (h : as.length = 1) : ∃ t, as = [t] := by
  match as, h with
  | [t], _ => exact ⟨t, rfl⟩
theorem list0 {as : List Int} (h : as.length = 0) : as = [] := List.length_eq_zero_iff.mp h
def tail2 (q : Nat) : Bool := [2, 3, 4, 5, 6, 9, 10, 12, 13, 14, 15, 16, 17, 18, 19].contains q
def tail3 (q : Nat) : Bool := [14, 15, 16, 17, 18].contains q
theorem tab2o : ∀ q, q < 21 → q = 0 ∨ q = 1 ∨ q = 7 ∨ q = 8 ∨ q = 11 ∨ q = 20 ∨ tail2 q = true := by decide
theorem tab2 (q : Nat) (hq : q < 21) (h0 : ¬ q = 0) (h1 : ¬ q = 1) (h7 : ¬ q = 7) (h8 : ¬ q = 8) (h11 : ¬ q = 11) (h20 : ¬ q = 20) : tail2 q = true := by
  rcases tab2o q hq with z | z | z | z | z | z | z
  · exact absurd z h0
  · exact absurd z h1
  · exact absurd z h7
  · exact absurd z h8
  · exact absurd z h11
  · exact absurd z h20
  · exact z
theorem tab3o : ∀ q, q < 21 → tail2 q = false ∨ q = 2 ∨ q = 3 ∨ q = 4 ∨ q = 5 ∨ q = 6 ∨ q = 9 ∨ q = 10 ∨ q = 12 ∨ q = 13 ∨ q = 19 ∨ tail3 q = true := by decide
theorem tab3 (q : Nat) (hq : q < 21) (hp : tail2 q = true) (h2 : ¬ q = 2) (h3 : ¬ q = 3) (h4 : ¬ q = 4) (h5 : ¬ q = 5) (h6 : ¬ q = 6) (h9 : ¬ q = 9) (h10 : ¬ q = 10) (h12 : ¬ q = 12) (h13 : ¬ q = 13) (h19 : ¬ q = 19) : tail3 q = true := by
  rcases tab3o q hq with z | z | z | z | z | z | z | z | z | z | z | z
  · rw [hp] at z; cases z
  · exact absurd z h2
  · exact absurd z h3
  · exact absurd z h4
  · exact absurd z h5
  · exact absurd z h6
  · exact absurd z h9
  · exact absurd z h10
  · exact absurd z h12
  · exact absurd z h13
  · exact absurd z h19
  · exact z
theorem tab4o : ∀ q, q < 21 → tail3 q = false ∨ q = 14 ∨ q = 15 ∨ q = 16 ∨ q = 17 ∨ q = 18 := by decide
theorem tab4 (q : Nat) (hq : q < 21) (hp : tail3 q = true) (h14 : ¬ q = 14) (h15 : ¬ q = 15) (h16 : ¬ q = 16) (h17 : ¬ q = 17) : q = 18 := by
  rcases tab4o q hq with z | z | z | z | z | z
  · rw [hp] at z; cases z
  · exact absurd z h14
  · exact absurd z h15
  · exact absurd z h16
  · exact absurd z h17
  · exact z
def spCallP (K : PySem.W.Frag) (C : Addr) (p : Nat → Bool) : Sp := fun vs H Q _ => ∃ (a nb rb : Addr) (y : Lay) (s : Vbenag.State) (q : Nat) (as row : List Int) (c : List (List Int)), vs = [.ref a, .str (strOf q), .ref nb, .ref rb] ∧ FileAt C H a y s ∧ H nb = some (.lst (as.map V.int)) ∧ H rb = some (.lst (row.map V.int)) ∧
  q < 21 ∧ as.length = nums.getD q 0 ∧ ((rowsN.getD q 0 = 0 ∧ c = [(q : Int) :: as]) ∨ (rowsN.getD q 0 = 1 ∧ c = [(q : Int) :: as, row])) ∧ p q = true ∧ CallEnd C a y H Q (Vbenag.step s c)
section
variable {P : Program} {w : World} {K : PySem.W.Frag} {mg : Str → Option Value} {base : Heap} {C tc pc : Addr}
theorem sc_answer_of_all_terms : FnScope ["card_file", "name", "numbers", "row"] ["card_file", "name", "numbers", "row"] (defScope s_answer_of_all_terms) := ⟨rfl, rfl, rfl, by decide +kernel, rfl, by decide +kernel, by decide +kernel⟩
theorem ok_answer_of_all_terms {f : Addr} {fd : FuncData} (F : Fun K "answer_of_all_terms" "answer_of_all_terms" s_answer_of_all_terms f fd) (T : Txt K mg C tc pc)
    (G14 : GOk P w K mg base "terms_in_common" 4 ["card_file", "places"] (spCall14 K C 14))
    (G15 : GOk P w K mg base "terms_closed" 5 ["card_file", "terms"] (spCall14 K C 15))
    (G16 : GOk P w K mg base "terms_for_one_place" 5 ["card_file", "place"] (spAlone C))
    (G17 : GOk P w K mg base "how_many_concepts" 4 ["card_file"] (spConcepts C))
    (G18 : GOk P w K mg base "places_with_one_term_more" 4 ["card_file", "terms"] (spCall14 K C 18))
    : FnOk P w K mg base CX0 6 f fd ["card_file", "name", "numbers", "row"] (spCallP K C tail3) := by
  refine F.ok sc_answer_of_all_terms (fun vs H Q E h => ?_) (fun cdv A outer s H vs Q E hr h => ?_)
  · obtain ⟨a, nb, rb, y, s, q, as, row, c, rfl, _⟩ := h
    rfl
  · obtain ⟨a, nb, rb, y, st, q, as, row, c, rfl, hF, hnb, hrb, hq, hal, hsh, hp, k⟩ := h
    have hr4 : Room 4 _ := hr.mono (by decide)
    have hr5 : Room 5 _ := hr.mono (by decide)
    refine ⟨_, pss_cons (ps_if (pt_cmpR op_eq (pv 1) pe_str (nomark _)) (pss_one (ps_ret (pe_g G14 hr4 rfl (pa_cons (pv 0) (pa_cons (pv 3) pa_nil))))) pss_nil)
      (pss_cons (ps_if (pt_cmpR op_eq (pv 1) pe_str (nomark _)) (pss_one (ps_ret (pe_g G15 hr5 rfl (pa_cons (pv 0) (pa_cons (pv 3) pa_nil))))) pss_nil)
      (pss_cons (ps_if (pt_cmpR op_eq (pv 1) pe_str (nomark _)) (pss_one (ps_ret (pe_g G16 hr5 rfl (pa_cons (pv 0) (pa_cons (pe_ix ix_list (pv 2) pe_int (fun _ _ => rfl)) pa_nil))))) pss_nil)
      (pss_cons (ps_if (pt_cmpR op_eq (pv 1) pe_str (nomark _)) (pss_one (ps_ret (pe_g G17 hr4 rfl (pa_cons (pv 0) pa_nil)))) pss_nil)
      (pss_one (ps_ret (pe_g G18 hr4 rfl (pa_cons (pv 0) (pa_cons (pv 3) pa_nil)))))))), ?_⟩
    refine tIf_i (nameIf 14 hq (by decide) rfl (ite2 (fun z => ?_) fun z => ?_))
    · obtain rfl := of_decide_eq_true z
      have hc := (hsh.resolve_left (by rintro ⟨z, _⟩; revert z; decide)).2
      obtain rfl := list0 hal
      subst hc
      exact ⟨_, rfl, _, rfl, a, rb, y, st, row, rfl, hF, SqL.of hrb, k⟩
    have h14 : ¬ q = 14 := fun e => z (decide_eq_true e)
    clear z
    refine tIf_i (nameIf 15 hq (by decide) rfl (ite2 (fun z => ?_) fun z => ?_))
    · obtain rfl := of_decide_eq_true z
      have hc := (hsh.resolve_left (by rintro ⟨z, _⟩; revert z; decide)).2
      obtain rfl := list0 hal
      subst hc
      exact ⟨_, rfl, _, rfl, a, rb, y, st, row, rfl, hF, SqL.of hrb, k⟩
    have h15 : ¬ q = 15 := fun e => z (decide_eq_true e)
    clear z
    refine tIf_i (nameIf 16 hq (by decide) rfl (ite2 (fun z => ?_) fun z => ?_))
    · obtain rfl := of_decide_eq_true z
      have hc := (hsh.resolve_right (by rintro ⟨z, _⟩; revert z; decide)).2
      obtain ⟨t, rfl⟩ := list1 hal
      subst hc
      exact ⟨_, rfl, _, rfl, nb, _, _, _, rfl, rfl, SqL.of hnb, (rfl : atI _ 0 = some (V.int t)), a, y, st, t, rfl, hF, k⟩
    have h16 : ¬ q = 16 := fun e => z (decide_eq_true e)
    clear z
    refine tIf_i (nameIf 17 hq (by decide) rfl (ite2 (fun z => ?_) fun z => ?_))
    · obtain rfl := of_decide_eq_true z
      have hc := (hsh.resolve_right (by rintro ⟨z, _⟩; revert z; decide)).2
      obtain rfl := list0 hal
      subst hc
      exact ⟨_, rfl, a, y, st, rfl, hF, k⟩
    have h17 : ¬ q = 17 := fun e => z (decide_eq_true e)
    clear z
    obtain rfl := tab4 q hq hp h14 h15 h16 h17
    have hc := (hsh.resolve_left (by rintro ⟨z, _⟩; revert z; decide)).2
    obtain rfl := list0 hal
    subst hc
    exact ⟨_, rfl, _, rfl, a, rb, y, st, row, rfl, hF, SqL.of hrb, k⟩
theorem sc_answer_question : FnScope ["card_file", "name", "numbers", "row"] ["card_file", "name", "numbers", "row"] (defScope s_answer_question) := ⟨rfl, rfl, rfl, by decide +kernel, rfl, by decide +kernel, by decide +kernel⟩
theorem ok_answer_question {f : Addr} {fd : FuncData} (F : Fun K "answer_question" "answer_question" s_answer_question f fd) (T : Txt K mg C tc pc)
    (G2 : GOk P w K mg base "places_that_shine" 4 ["card_file", "terms"] (spLight K C))
    (G3 : GOk P w K mg base "places_found" 3 ["card_file", "terms"] (spFound K C))
    (G4 : GOk P w K mg base "holes_of_term" 4 ["card_file", "term"] (spTerm C))
    (G5 : GOk P w K mg base "item_card_at" 2 ["card_file", "place"] (spItemCard C))
    (G6 : GOk P w K mg base "holes_of_card" 3 ["card_file", "card"] (spCheck C))
    (G9 : GOk P w K mg base "places_unread" 4 ["card_file"] (spUnread C))
    (G10 : GOk P w K mg base "wrong_holes" 4 ["card_file"] (spWrong C))
    (G12 : GOk P w K mg base "holes_unlike_item_cards" 2 ["card_file"] (spUnlike C))
    (G13 : GOk P w K mg base "holes_by_item_cards" 2 ["card_file", "term"] (spAnew C))
    (G19 : GOk P w K mg base "how_many_of_each" 2 ["card_file"] (spCounts C))
    (GN : GOk P w K mg base "answer_of_all_terms" 6 ["card_file", "name", "numbers", "row"] (spCallP K C tail3))
    : FnOk P w K mg base CX0 7 f fd ["card_file", "name", "numbers", "row"] (spCallP K C tail2) := by
  refine F.ok sc_answer_question (fun vs H Q E h => ?_) (fun cdv A outer s H vs Q E hr h => ?_)
  · obtain ⟨a, nb, rb, y, s, q, as, row, c, rfl, _⟩ := h
    rfl
  · obtain ⟨a, nb, rb, y, st, q, as, row, c, rfl, hF, hnb, hrb, hq, hal, hsh, hp, k⟩ := h
    have hr2 : Room 2 _ := hr.mono (by decide)
    have hr3 : Room 3 _ := hr.mono (by decide)
    have hr4 : Room 4 _ := hr.mono (by decide)
    have hr6 : Room 6 _ := hr.mono (by decide)
    refine ⟨_, pss_cons (ps_if (pt_cmpR op_eq (pv 1) pe_str (nomark _)) (pss_one (ps_ret (pe_g G2 hr4 rfl (pa_cons (pv 0) (pa_cons (pv 3) pa_nil))))) pss_nil)
      (pss_cons (ps_if (pt_cmpR op_eq (pv 1) pe_str (nomark _)) (pss_one (ps_ret (pe_g G3 hr3 rfl (pa_cons (pv 0) (pa_cons (pv 3) pa_nil))))) pss_nil)
      (pss_cons (ps_if (pt_cmpR op_eq (pv 1) pe_str (nomark _)) (pss_one (ps_ret (pe_g G4 hr4 rfl (pa_cons (pv 0) (pa_cons (pe_ix ix_list (pv 2) pe_int (fun _ _ => rfl)) pa_nil))))) pss_nil)
      (pss_cons (ps_if (pt_cmpR op_eq (pv 1) pe_str (nomark _)) (pss_one (ps_ret (pe_g G5 hr2 rfl (pa_cons (pv 0) (pa_cons (pe_ix ix_list (pv 2) pe_int (fun _ _ => rfl)) pa_nil))))) pss_nil)
      (pss_cons (ps_if (pt_cmpR op_eq (pv 1) pe_str (nomark _)) (pss_one (ps_ret (pe_g G6 hr3 rfl (pa_cons (pv 0) (pa_cons (pe_ix ix_list (pv 2) pe_int (fun _ _ => rfl)) pa_nil))))) pss_nil)
      (pss_cons (ps_if (pt_cmpR op_eq (pv 1) pe_str (nomark _)) (pss_one (ps_ret (pe_g G9 hr4 rfl (pa_cons (pv 0) pa_nil)))) pss_nil)
      (pss_cons (ps_if (pt_cmpR op_eq (pv 1) pe_str (nomark _)) (pss_one (ps_ret (pe_g G10 hr4 rfl (pa_cons (pv 0) pa_nil)))) pss_nil)
      (pss_cons (ps_if (pt_cmpR op_eq (pv 1) pe_str (nomark _)) (pss_one (ps_ret (pe_g G12 hr2 rfl (pa_cons (pv 0) pa_nil)))) pss_nil)
      (pss_cons (ps_if (pt_cmpR op_eq (pv 1) pe_str (nomark _)) (pss_one (ps_ret (pe_g G13 hr2 rfl (pa_cons (pv 0) (pa_cons (pe_ix ix_list (pv 2) pe_int (fun _ _ => rfl)) pa_nil))))) pss_nil)
      (pss_cons (ps_if (pt_cmpR op_eq (pv 1) pe_str (nomark _)) (pss_one (ps_ret (pe_g G19 hr2 rfl (pa_cons (pv 0) pa_nil)))) pss_nil)
      (pss_one (ps_ret (pe_g GN hr6 rfl (pa_cons (pv 0) (pa_cons (pv 1) (pa_cons (pv 2) (pa_cons (pv 3) pa_nil)))))))))))))))), ?_⟩
    refine tIf_i (nameIf 2 hq (by decide) rfl (ite2 (fun z => ?_) fun z => ?_))
    · obtain rfl := of_decide_eq_true z
      have hc := (hsh.resolve_left (by rintro ⟨z, _⟩; revert z; decide)).2
      obtain rfl := list0 hal
      subst hc
      exact ⟨_, rfl, _, rfl, a, rb, y, st, row, rfl, hF, SqL.of hrb, k⟩
    have h2 : ¬ q = 2 := fun e => z (decide_eq_true e)
    clear z
    refine tIf_i (nameIf 3 hq (by decide) rfl (ite2 (fun z => ?_) fun z => ?_))
    · obtain rfl := of_decide_eq_true z
      have hc := (hsh.resolve_left (by rintro ⟨z, _⟩; revert z; decide)).2
      obtain rfl := list0 hal
      subst hc
      exact ⟨_, rfl, _, rfl, a, rb, y, st, row, rfl, hF, SqL.of hrb, k⟩
    have h3 : ¬ q = 3 := fun e => z (decide_eq_true e)
    clear z
    refine tIf_i (nameIf 4 hq (by decide) rfl (ite2 (fun z => ?_) fun z => ?_))
    · obtain rfl := of_decide_eq_true z
      have hc := (hsh.resolve_right (by rintro ⟨z, _⟩; revert z; decide)).2
      obtain ⟨t, rfl⟩ := list1 hal
      subst hc
      exact ⟨_, rfl, _, rfl, nb, _, _, _, rfl, rfl, SqL.of hnb, (rfl : atI _ 0 = some (V.int t)), a, y, st, t, rfl, hF, k⟩
    have h4 : ¬ q = 4 := fun e => z (decide_eq_true e)
    clear z
    refine tIf_i (nameIf 5 hq (by decide) rfl (ite2 (fun z => ?_) fun z => ?_))
    · obtain rfl := of_decide_eq_true z
      have hc := (hsh.resolve_right (by rintro ⟨z, _⟩; revert z; decide)).2
      obtain ⟨t, rfl⟩ := list1 hal
      subst hc
      exact ⟨_, rfl, _, rfl, nb, _, _, _, rfl, rfl, SqL.of hnb, (rfl : atI _ 0 = some (V.int t)), a, y, st, t, rfl, hF, k⟩
    have h5 : ¬ q = 5 := fun e => z (decide_eq_true e)
    clear z
    refine tIf_i (nameIf 6 hq (by decide) rfl (ite2 (fun z => ?_) fun z => ?_))
    · obtain rfl := of_decide_eq_true z
      have hc := (hsh.resolve_right (by rintro ⟨z, _⟩; revert z; decide)).2
      obtain ⟨t, rfl⟩ := list1 hal
      subst hc
      exact ⟨_, rfl, _, rfl, nb, _, _, _, rfl, rfl, SqL.of hnb, (rfl : atI _ 0 = some (V.int t)), a, y, st, t, rfl, hF, k⟩
    have h6 : ¬ q = 6 := fun e => z (decide_eq_true e)
    clear z
    refine tIf_i (nameIf 9 hq (by decide) rfl (ite2 (fun z => ?_) fun z => ?_))
    · obtain rfl := of_decide_eq_true z
      have hc := (hsh.resolve_right (by rintro ⟨z, _⟩; revert z; decide)).2
      obtain rfl := list0 hal
      subst hc
      exact ⟨_, rfl, a, y, st, rfl, hF, k⟩
    have h9 : ¬ q = 9 := fun e => z (decide_eq_true e)
    clear z
    refine tIf_i (nameIf 10 hq (by decide) rfl (ite2 (fun z => ?_) fun z => ?_))
    · obtain rfl := of_decide_eq_true z
      have hc := (hsh.resolve_right (by rintro ⟨z, _⟩; revert z; decide)).2
      obtain rfl := list0 hal
      subst hc
      exact ⟨_, rfl, a, y, st, rfl, hF, k⟩
    have h10 : ¬ q = 10 := fun e => z (decide_eq_true e)
    clear z
    refine tIf_i (nameIf 12 hq (by decide) rfl (ite2 (fun z => ?_) fun z => ?_))
    · obtain rfl := of_decide_eq_true z
      have hc := (hsh.resolve_right (by rintro ⟨z, _⟩; revert z; decide)).2
      obtain rfl := list0 hal
      subst hc
      exact ⟨_, rfl, a, y, st, rfl, hF, k⟩
    have h12 : ¬ q = 12 := fun e => z (decide_eq_true e)
    clear z
    refine tIf_i (nameIf 13 hq (by decide) rfl (ite2 (fun z => ?_) fun z => ?_))
    · obtain rfl := of_decide_eq_true z
      have hc := (hsh.resolve_right (by rintro ⟨z, _⟩; revert z; decide)).2
      obtain ⟨t, rfl⟩ := list1 hal
      subst hc
      exact ⟨_, rfl, _, rfl, nb, _, _, _, rfl, rfl, SqL.of hnb, (rfl : atI _ 0 = some (V.int t)), a, y, st, t, rfl, hF, k⟩
    have h13 : ¬ q = 13 := fun e => z (decide_eq_true e)
    clear z
    refine tIf_i (nameIf 19 hq (by decide) rfl (ite2 (fun z => ?_) fun z => ?_))
    · obtain rfl := of_decide_eq_true z
      have hc := (hsh.resolve_right (by rintro ⟨z, _⟩; revert z; decide)).2
      obtain rfl := list0 hal
      subst hc
      exact ⟨_, rfl, a, y, st, rfl, hF, k⟩
    have h19 : ¬ q = 19 := fun e => z (decide_eq_true e)
    clear z
    exact ⟨_, rfl, _, rfl, _, rfl, _, rfl, a, nb, rb, y, st, q, as, row, c, rfl, hF, hnb, hrb, hq, hal, hsh, tab3 q hq hp h2 h3 h4 h5 h6 h9 h10 h12 h13 h19, k⟩
theorem sc_answer_call : FnScope ["card_file", "name", "numbers", "row"] ["card_file", "name", "numbers", "row"] (defScope s_answer_call) := ⟨rfl, rfl, rfl, by decide +kernel, rfl, by decide +kernel, by decide +kernel⟩
theorem ok_answer_call {f : Addr} {fd : FuncData} (F : Fun K "answer_call" "answer_call" s_answer_call f fd) (T : Txt K mg C tc pc)
    (G0 : GOk P w K mg base "set_up_file" 3 ["card_file", "term_count", "place_count"] (spFile C))
    (G1 : GOk P w K mg base "enter_item" 3 ["card_file", "place", "terms"] (spItem K C))
    (G7 : GOk P w K mg base "toggle_hole" 2 ["card_file", "card", "place"] (spToggle C))
    (G8 : GOk P w K mg base "lose_card" 2 ["card_file", "card"] (spLose C))
    (G11 : GOk P w K mg base "mend_cards" 4 ["card_file"] (spMend C))
    (G20 : GOk P w K mg base "clear_file" 4 ["card_file"] (spClear C))
    (GN : GOk P w K mg base "answer_question" 7 ["card_file", "name", "numbers", "row"] (spCallP K C tail2))
    : FnOk P w K mg base CX0 8 f fd ["card_file", "name", "numbers", "row"] (spCall C) := by
  refine F.ok sc_answer_call (fun vs H Q E h => ?_) (fun cdv A outer s H vs Q E hr h => ?_)
  · obtain ⟨a, nb, rb, y, s, q, as, row, c, rfl, _⟩ := h
    rfl
  · obtain ⟨a, nb, rb, y, st, q, as, row, c, rfl, hF, hnb, hrb, hq, hal, hsh, k⟩ := h
    have hr2 : Room 2 _ := hr.mono (by decide)
    have hr3 : Room 3 _ := hr.mono (by decide)
    have hr4 : Room 4 _ := hr.mono (by decide)
    have hr7 : Room 7 _ := hr.mono (by decide)
    refine ⟨_, pss_cons (ps_if (pt_cmpR op_eq (pv 1) pe_str (nomark _)) (pss_one (ps_ret (pe_g G0 hr3 rfl (pa_cons (pv 0) (pa_cons (pe_ix ix_list (pv 2) pe_int (fun _ _ => rfl)) (pa_cons (pe_ix ix_list (pv 2) pe_int (fun _ _ => rfl)) pa_nil)))))) pss_nil)
      (pss_cons (ps_if (pt_cmpR op_eq (pv 1) pe_str (nomark _)) (pss_one (ps_ret (pe_g G1 hr3 rfl (pa_cons (pv 0) (pa_cons (pe_ix ix_list (pv 2) pe_int (fun _ _ => rfl)) (pa_cons (pv 3) pa_nil)))))) pss_nil)
      (pss_cons (ps_if (pt_cmpR op_eq (pv 1) pe_str (nomark _)) (pss_one (ps_ret (pe_g G7 hr2 rfl (pa_cons (pv 0) (pa_cons (pe_ix ix_list (pv 2) pe_int (fun _ _ => rfl)) (pa_cons (pe_ix ix_list (pv 2) pe_int (fun _ _ => rfl)) pa_nil)))))) pss_nil)
      (pss_cons (ps_if (pt_cmpR op_eq (pv 1) pe_str (nomark _)) (pss_one (ps_ret (pe_g G8 hr2 rfl (pa_cons (pv 0) (pa_cons (pe_ix ix_list (pv 2) pe_int (fun _ _ => rfl)) pa_nil))))) pss_nil)
      (pss_cons (ps_if (pt_cmpR op_eq (pv 1) pe_str (nomark _)) (pss_one (ps_ret (pe_g G11 hr4 rfl (pa_cons (pv 0) pa_nil)))) pss_nil)
      (pss_cons (ps_if (pt_cmpR op_eq (pv 1) pe_str (nomark _)) (pss_one (ps_ret (pe_g G20 hr4 rfl (pa_cons (pv 0) pa_nil)))) pss_nil)
      (pss_one (ps_ret (pe_g GN hr7 rfl (pa_cons (pv 0) (pa_cons (pv 1) (pa_cons (pv 2) (pa_cons (pv 3) pa_nil)))))))))))), ?_⟩
    refine tIf_i (nameIf 0 hq (by decide) rfl (ite2 (fun z => ?_) fun z => ?_))
    · obtain rfl := of_decide_eq_true z
      have hc := (hsh.resolve_right (by rintro ⟨z, _⟩; revert z; decide)).2
      obtain ⟨t, p, rfl⟩ := list2 hal
      subst hc
      exact ⟨_, rfl, _, rfl, nb, _, _, _, rfl, rfl, SqL.of hnb, (rfl : atI _ 0 = some (V.int t)), _, rfl, nb, _, _, _, rfl, rfl, SqL.of hnb, (rfl : atI _ 1 = some (V.int p)), a, y, st, t, p, rfl, hF, k⟩
    have h0 : ¬ q = 0 := fun e => z (decide_eq_true e)
    clear z
    refine tIf_i (nameIf 1 hq (by decide) rfl (ite2 (fun z => ?_) fun z => ?_))
    · obtain rfl := of_decide_eq_true z
      have hc := (hsh.resolve_left (by rintro ⟨z, _⟩; revert z; decide)).2
      obtain ⟨t, rfl⟩ := list1 hal
      subst hc
      exact ⟨_, rfl, _, rfl, nb, _, _, _, rfl, rfl, SqL.of hnb, (rfl : atI _ 0 = some (V.int t)), _, rfl, a, rb, y, st, t, row, rfl, hF, SqL.of hrb, k⟩
    have h1 : ¬ q = 1 := fun e => z (decide_eq_true e)
    clear z
    refine tIf_i (nameIf 7 hq (by decide) rfl (ite2 (fun z => ?_) fun z => ?_))
    · obtain rfl := of_decide_eq_true z
      have hc := (hsh.resolve_right (by rintro ⟨z, _⟩; revert z; decide)).2
      obtain ⟨t, p, rfl⟩ := list2 hal
      subst hc
      exact ⟨_, rfl, _, rfl, nb, _, _, _, rfl, rfl, SqL.of hnb, (rfl : atI _ 0 = some (V.int t)), _, rfl, nb, _, _, _, rfl, rfl, SqL.of hnb, (rfl : atI _ 1 = some (V.int p)), a, y, st, t, p, rfl, hF, k⟩
    have h7 : ¬ q = 7 := fun e => z (decide_eq_true e)
    clear z
    refine tIf_i (nameIf 8 hq (by decide) rfl (ite2 (fun z => ?_) fun z => ?_))
    · obtain rfl := of_decide_eq_true z
      have hc := (hsh.resolve_right (by rintro ⟨z, _⟩; revert z; decide)).2
      obtain ⟨t, rfl⟩ := list1 hal
      subst hc
      exact ⟨_, rfl, _, rfl, nb, _, _, _, rfl, rfl, SqL.of hnb, (rfl : atI _ 0 = some (V.int t)), a, y, st, t, rfl, hF, k⟩
    have h8 : ¬ q = 8 := fun e => z (decide_eq_true e)
    clear z
    refine tIf_i (nameIf 11 hq (by decide) rfl (ite2 (fun z => ?_) fun z => ?_))
    · obtain rfl := of_decide_eq_true z
      have hc := (hsh.resolve_right (by rintro ⟨z, _⟩; revert z; decide)).2
      obtain rfl := list0 hal
      subst hc
      exact ⟨_, rfl, a, y, st, rfl, hF, k⟩
    have h11 : ¬ q = 11 := fun e => z (decide_eq_true e)
    clear z
    refine tIf_i (nameIf 20 hq (by decide) rfl (ite2 (fun z => ?_) fun z => ?_))
    · obtain rfl := of_decide_eq_true z
      have hc := (hsh.resolve_right (by rintro ⟨z, _⟩; revert z; decide)).2
      obtain rfl := list0 hal
      subst hc
      exact ⟨_, rfl, a, y, st, rfl, hF, k⟩
    have h20 : ¬ q = 20 := fun e => z (decide_eq_true e)
    clear z
    exact ⟨_, rfl, _, rfl, _, rfl, _, rfl, a, nb, rb, y, st, q, as, row, c, rfl, hF, hnb, hrb, hq, hal, hsh, tab2 q hq h0 h1 h7 h8 h11 h20, k⟩
end
end Hc
set_option Elab.async false
set_option linter.all false
set_option maxRecDepth 100000
set_option maxHeartbeats 4000000
namespace Hc
open PySem PySem.Spec PyProof.Rows L2
structure GRaw (K : PySem.W.Frag) (x : Str) (st : Stmt) : Prop where
  ex : ∃ f fd, PySem.W.nsIn K mainGlobals x = some (some (.ref f)) ∧ PySem.W.keepIn K (.ref f) = true ∧ Fun K x x st f fd
theorem graw_mk {K : PySem.W.Frag} {x : Str} {st : Stmt} {f : Addr} {oc : Value} {od an : Option Addr} {osl : Array (Option Value)} {kV doc pm cdv ct : Value} (a : PySem.W.nsIn K mainGlobals x = some (some (.ref f)))
    (l : K.lookup f = some ⟨oc, od, .func (PySem.W.fnOf x x (defArgs st) (defBody st) (defScope st) .none kV doc pm an cdv ct), osl⟩) (c : PySem.W.codeIn K cdv x = true) (k : PySem.W.keepIn K (.ref f) = true) : GRaw K x st := ⟨⟨_, _, a, k, fun_mk l c k⟩⟩
structure MRaw (K : PySem.W.Frag) (C : Addr) (x qual : Str) (st : Stmt) : Prop where
  ex : ∃ f fd, Meth K C x f ∧ Fun K x qual st f fd
theorem mraw_mk {K : PySem.W.Frag} {C : Addr} {x qual : Str} {st : Stmt} {f : Addr} {oc : Value} {od an : Option Addr} {osl : Array (Option Value)} {kV doc pm cdv ct : Value} (a : PySem.W.findIn K (.ref C) x = some (some (.ref f))) (i : PySem.W.isFn K (.ref f) = true)
    (l : K.lookup f = some ⟨oc, od, .func (PySem.W.fnOf x qual (defArgs st) (defBody st) (defScope st) .none kV doc pm an cdv ct), osl⟩) (c : PySem.W.codeIn K cdv qual = true) (k : PySem.W.keepIn K (.ref f) = true) : MRaw K C x qual st := ⟨⟨_, _, ⟨a, i, k⟩, fun_mk l c k⟩⟩
theorem sh_mk {P : Program} {w : World} {K : PySem.W.Frag} {mg : Str → Option Value} {sd a0 a1 a2 a3 a4 a5 a6 a7 a8 a9 a10 a11 a12 a13 a14 a15 a16 a17 a18 a19 a20 : Addr} {ep t0 u0 v0 n0 t1 u1 v1 n1 t2 u2 v2 n2 t3 u3 v3 n3 t4 u4 v4 n4 t5 u5 v5 n5 t6 u6 v6 n6 t7 u7 v7 n7 t8 u8 v8 n8 t9 u9 v9 n9 t10 u10 v10 n10 t11 u11 v11 n11 t12 u12 v12 n12 t13 u13 v13 n13 t14 u14 v14 n14 t15 u15 v15 n15 t16 u16 v16 n16 t17 u17 v17 n17 t18 u18 v18 n18 t19 u19 v19 n19 t20 u20 v20 n20 : Nat}
    {d0 d1 d2 d3 d4 d5 d6 d7 d8 d9 d10 d11 d12 d13 d14 d15 d16 d17 d18 d19 d20 : Option Addr} {s0 s1 s2 s3 s4 s5 s6 s7 s8 s9 s10 s11 s12 s13 s14 s15 s16 s17 s18 s19 s20 : Array (Option Value)} (g : mg "SHAPES" = some (.ref sd))
    (lS : K.lookup sd = some ⟨.type "dict", none, .dict #[⟨0, .int 0 t0, .ref a0⟩, ⟨1, .int 1 t1, .ref a1⟩, ⟨2, .int 2 t2, .ref a2⟩, ⟨3, .int 3 t3, .ref a3⟩, ⟨4, .int 4 t4, .ref a4⟩, ⟨5, .int 5 t5, .ref a5⟩, ⟨6, .int 6 t6, .ref a6⟩, ⟨7, .int 7 t7, .ref a7⟩, ⟨8, .int 8 t8, .ref a8⟩, ⟨9, .int 9 t9, .ref a9⟩, ⟨10, .int 10 t10, .ref a10⟩, ⟨11, .int 11 t11, .ref a11⟩, ⟨12, .int 12 t12, .ref a12⟩, ⟨13, .int 13 t13, .ref a13⟩, ⟨14, .int 14 t14, .ref a14⟩, ⟨15, .int 15 t15, .ref a15⟩, ⟨16, .int 16 t16, .ref a16⟩, ⟨17, .int 17 t17, .ref a17⟩, ⟨18, .int 18 t18, .ref a18⟩, ⟨19, .int 19 t19, .ref a19⟩, ⟨20, .int 20 t20, .ref a20⟩] ep, #[]⟩)
    (l0 : K.lookup a0 = some ⟨.type "tuple", d0, .seq #[.str "file" u0, .int 2 v0, .bool false] n0, s0⟩)
    (l1 : K.lookup a1 = some ⟨.type "tuple", d1, .seq #[.str "item" u1, .int 1 v1, .bool true] n1, s1⟩)
    (l2 : K.lookup a2 = some ⟨.type "tuple", d2, .seq #[.str "light" u2, .int 0 v2, .bool true] n2, s2⟩)
    (l3 : K.lookup a3 = some ⟨.type "tuple", d3, .seq #[.str "found" u3, .int 0 v3, .bool true] n3, s3⟩)
    (l4 : K.lookup a4 = some ⟨.type "tuple", d4, .seq #[.str "term" u4, .int 1 v4, .bool false] n4, s4⟩)
    (l5 : K.lookup a5 = some ⟨.type "tuple", d5, .seq #[.str "itemcard" u5, .int 1 v5, .bool false] n5, s5⟩)
    (l6 : K.lookup a6 = some ⟨.type "tuple", d6, .seq #[.str "check" u6, .int 1 v6, .bool false] n6, s6⟩)
    (l7 : K.lookup a7 = some ⟨.type "tuple", d7, .seq #[.str "toggle" u7, .int 2 v7, .bool false] n7, s7⟩)
    (l8 : K.lookup a8 = some ⟨.type "tuple", d8, .seq #[.str "lose" u8, .int 1 v8, .bool false] n8, s8⟩)
    (l9 : K.lookup a9 = some ⟨.type "tuple", d9, .seq #[.str "unread" u9, .int 0 v9, .bool false] n9, s9⟩)
    (l10 : K.lookup a10 = some ⟨.type "tuple", d10, .seq #[.str "wrong" u10, .int 0 v10, .bool false] n10, s10⟩)
    (l11 : K.lookup a11 = some ⟨.type "tuple", d11, .seq #[.str "mend" u11, .int 0 v11, .bool false] n11, s11⟩)
    (l12 : K.lookup a12 = some ⟨.type "tuple", d12, .seq #[.str "unlike" u12, .int 0 v12, .bool false] n12, s12⟩)
    (l13 : K.lookup a13 = some ⟨.type "tuple", d13, .seq #[.str "anew" u13, .int 1 v13, .bool false] n13, s13⟩)
    (l14 : K.lookup a14 = some ⟨.type "tuple", d14, .seq #[.str "common" u14, .int 0 v14, .bool true] n14, s14⟩)
    (l15 : K.lookup a15 = some ⟨.type "tuple", d15, .seq #[.str "closed" u15, .int 0 v15, .bool true] n15, s15⟩)
    (l16 : K.lookup a16 = some ⟨.type "tuple", d16, .seq #[.str "alone" u16, .int 1 v16, .bool false] n16, s16⟩)
    (l17 : K.lookup a17 = some ⟨.type "tuple", d17, .seq #[.str "concepts" u17, .int 0 v17, .bool false] n17, s17⟩)
    (l18 : K.lookup a18 = some ⟨.type "tuple", d18, .seq #[.str "further" u18, .int 0 v18, .bool true] n18, s18⟩)
    (l19 : K.lookup a19 = some ⟨.type "tuple", d19, .seq #[.str "counts" u19, .int 0 v19, .bool false] n19, s19⟩)
    (l20 : K.lookup a20 = some ⟨.type "tuple", d20, .seq #[.str "clear" u20, .int 0 v20, .bool false] n20, s20⟩)
    : ShOk P w K mg sd := by
  refine ⟨g, holesD (List.range 21) [a0, a1, a2, a3, a4, a5, a6, a7, a8, a9, a10, a11, a12, a13, a14, a15, a16, a17, a18, a19, a20], ⟨⟨[(keyN 0, Value.ref a0), (keyN 1, Value.ref a1), (keyN 2, Value.ref a2), (keyN 3, Value.ref a3), (keyN 4, Value.ref a4), (keyN 5, Value.ref a5), (keyN 6, Value.ref a6), (keyN 7, Value.ref a7), (keyN 8, Value.ref a8), (keyN 9, Value.ref a9), (keyN 10, Value.ref a10), (keyN 11, Value.ref a11), (keyN 12, Value.ref a12), (keyN 13, Value.ref a13), (keyN 14, Value.ref a14), (keyN 15, Value.ref a15), (keyN 16, Value.ref a16), (keyN 17, Value.ref a17), (keyN 18, Value.ref a18), (keyN 19, Value.ref a19), (keyN 20, Value.ref a20)], ?_, fun h X => ?_⟩⟩, fun q hq => ?_⟩
  · exact .cons ⟨rfl, rfl⟩ (.cons ⟨rfl, rfl⟩ (.cons ⟨rfl, rfl⟩ (.cons ⟨rfl, rfl⟩ (.cons ⟨rfl, rfl⟩ (.cons ⟨rfl, rfl⟩ (.cons ⟨rfl, rfl⟩ (.cons ⟨rfl, rfl⟩ (.cons ⟨rfl, rfl⟩ (.cons ⟨rfl, rfl⟩ (.cons ⟨rfl, rfl⟩ (.cons ⟨rfl, rfl⟩ (.cons ⟨rfl, rfl⟩ (.cons ⟨rfl, rfl⟩ (.cons ⟨rfl, rfl⟩ (.cons ⟨rfl, rfl⟩ (.cons ⟨rfl, rfl⟩ (.cons ⟨rfl, rfl⟩ (.cons ⟨rfl, rfl⟩ (.cons ⟨rfl, rfl⟩ (.cons ⟨rfl, rfl⟩ (.nil)))))))))))))))))))))
  · refine ⟨_, _, _, X _ _ lS, ⟨rfl, rfl, rfl⟩, rfl, fun e he => ?_, ?_, ?_⟩
    · rw [← Array.mem_toList_iff] at he
      simp only [List.mem_cons, List.not_mem_nil, or_false] at he
      rcases he with rfl | rfl | rfl | rfl | rfl | rfl | rfl | rfl | rfl | rfl | rfl | rfl | rfl | rfl | rfl | rfl | rfl | rfl | rfl | rfl | rfl
      · exact ⟨keyN 0, mixKind_int P w 0 _, by show (0 : Int) = hashInt 0; decide⟩
      · exact ⟨keyN 1, mixKind_int P w 1 _, by show (1 : Int) = hashInt 1; decide⟩
      · exact ⟨keyN 2, mixKind_int P w 2 _, by show (2 : Int) = hashInt 2; decide⟩
      · exact ⟨keyN 3, mixKind_int P w 3 _, by show (3 : Int) = hashInt 3; decide⟩
      · exact ⟨keyN 4, mixKind_int P w 4 _, by show (4 : Int) = hashInt 4; decide⟩
      · exact ⟨keyN 5, mixKind_int P w 5 _, by show (5 : Int) = hashInt 5; decide⟩
      · exact ⟨keyN 6, mixKind_int P w 6 _, by show (6 : Int) = hashInt 6; decide⟩
      · exact ⟨keyN 7, mixKind_int P w 7 _, by show (7 : Int) = hashInt 7; decide⟩
      · exact ⟨keyN 8, mixKind_int P w 8 _, by show (8 : Int) = hashInt 8; decide⟩
      · exact ⟨keyN 9, mixKind_int P w 9 _, by show (9 : Int) = hashInt 9; decide⟩
      · exact ⟨keyN 10, mixKind_int P w 10 _, by show (10 : Int) = hashInt 10; decide⟩
      · exact ⟨keyN 11, mixKind_int P w 11 _, by show (11 : Int) = hashInt 11; decide⟩
      · exact ⟨keyN 12, mixKind_int P w 12 _, by show (12 : Int) = hashInt 12; decide⟩
      · exact ⟨keyN 13, mixKind_int P w 13 _, by show (13 : Int) = hashInt 13; decide⟩
      · exact ⟨keyN 14, mixKind_int P w 14 _, by show (14 : Int) = hashInt 14; decide⟩
      · exact ⟨keyN 15, mixKind_int P w 15 _, by show (15 : Int) = hashInt 15; decide⟩
      · exact ⟨keyN 16, mixKind_int P w 16 _, by show (16 : Int) = hashInt 16; decide⟩
      · exact ⟨keyN 17, mixKind_int P w 17 _, by show (17 : Int) = hashInt 17; decide⟩
      · exact ⟨keyN 18, mixKind_int P w 18 _, by show (18 : Int) = hashInt 18; decide⟩
      · exact ⟨keyN 19, mixKind_int P w 19 _, by show (19 : Int) = hashInt 19; decide⟩
      · exact ⟨keyN 20, mixKind_int P w 20 _, by show (20 : Int) = hashInt 20; decide⟩
    · exact .cons (mixKind_int P w 0 _) rfl (.cons (mixKind_int P w 1 _) rfl (.cons (mixKind_int P w 2 _) rfl (.cons (mixKind_int P w 3 _) rfl (.cons (mixKind_int P w 4 _) rfl (.cons (mixKind_int P w 5 _) rfl (.cons (mixKind_int P w 6 _) rfl (.cons (mixKind_int P w 7 _) rfl (.cons (mixKind_int P w 8 _) rfl (.cons (mixKind_int P w 9 _) rfl (.cons (mixKind_int P w 10 _) rfl (.cons (mixKind_int P w 11 _) rfl (.cons (mixKind_int P w 12 _) rfl (.cons (mixKind_int P w 13 _) rfl (.cons (mixKind_int P w 14 _) rfl (.cons (mixKind_int P w 15 _) rfl (.cons (mixKind_int P w 16 _) rfl (.cons (mixKind_int P w 17 _) rfl (.cons (mixKind_int P w 18 _) rfl (.cons (mixKind_int P w 19 _) rfl (.cons (mixKind_int P w 20 _) rfl (.nil)))))))))))))))))))))
    · show ([keyN 0, keyN 1, keyN 2, keyN 3, keyN 4, keyN 5, keyN 6, keyN 7, keyN 8, keyN 9, keyN 10, keyN 11, keyN 12, keyN 13, keyN 14, keyN 15, keyN 16, keyN 17, keyN 18, keyN 19, keyN 20] : List Key).Nodup
      decide +kernel
  · match q, hq with
    | 0, _ => exact ⟨a0, valV_holes (inc_range 21).nodup (i := 0) rfl rfl, fun H => .inr ⟨_, _, _, l0, rfl, rfl, (by show 3 ≤ sizeLine; decide), .cons ⟨_, rfl⟩ (.cons ⟨_, rfl⟩ (.cons rfl .nil))⟩⟩
    | 1, _ => exact ⟨a1, valV_holes (inc_range 21).nodup (i := 1) rfl rfl, fun H => .inr ⟨_, _, _, l1, rfl, rfl, (by show 3 ≤ sizeLine; decide), .cons ⟨_, rfl⟩ (.cons ⟨_, rfl⟩ (.cons rfl .nil))⟩⟩
    | 2, _ => exact ⟨a2, valV_holes (inc_range 21).nodup (i := 2) rfl rfl, fun H => .inr ⟨_, _, _, l2, rfl, rfl, (by show 3 ≤ sizeLine; decide), .cons ⟨_, rfl⟩ (.cons ⟨_, rfl⟩ (.cons rfl .nil))⟩⟩
    | 3, _ => exact ⟨a3, valV_holes (inc_range 21).nodup (i := 3) rfl rfl, fun H => .inr ⟨_, _, _, l3, rfl, rfl, (by show 3 ≤ sizeLine; decide), .cons ⟨_, rfl⟩ (.cons ⟨_, rfl⟩ (.cons rfl .nil))⟩⟩
    | 4, _ => exact ⟨a4, valV_holes (inc_range 21).nodup (i := 4) rfl rfl, fun H => .inr ⟨_, _, _, l4, rfl, rfl, (by show 3 ≤ sizeLine; decide), .cons ⟨_, rfl⟩ (.cons ⟨_, rfl⟩ (.cons rfl .nil))⟩⟩
    | 5, _ => exact ⟨a5, valV_holes (inc_range 21).nodup (i := 5) rfl rfl, fun H => .inr ⟨_, _, _, l5, rfl, rfl, (by show 3 ≤ sizeLine; decide), .cons ⟨_, rfl⟩ (.cons ⟨_, rfl⟩ (.cons rfl .nil))⟩⟩
    | 6, _ => exact ⟨a6, valV_holes (inc_range 21).nodup (i := 6) rfl rfl, fun H => .inr ⟨_, _, _, l6, rfl, rfl, (by show 3 ≤ sizeLine; decide), .cons ⟨_, rfl⟩ (.cons ⟨_, rfl⟩ (.cons rfl .nil))⟩⟩
    | 7, _ => exact ⟨a7, valV_holes (inc_range 21).nodup (i := 7) rfl rfl, fun H => .inr ⟨_, _, _, l7, rfl, rfl, (by show 3 ≤ sizeLine; decide), .cons ⟨_, rfl⟩ (.cons ⟨_, rfl⟩ (.cons rfl .nil))⟩⟩
    | 8, _ => exact ⟨a8, valV_holes (inc_range 21).nodup (i := 8) rfl rfl, fun H => .inr ⟨_, _, _, l8, rfl, rfl, (by show 3 ≤ sizeLine; decide), .cons ⟨_, rfl⟩ (.cons ⟨_, rfl⟩ (.cons rfl .nil))⟩⟩
    | 9, _ => exact ⟨a9, valV_holes (inc_range 21).nodup (i := 9) rfl rfl, fun H => .inr ⟨_, _, _, l9, rfl, rfl, (by show 3 ≤ sizeLine; decide), .cons ⟨_, rfl⟩ (.cons ⟨_, rfl⟩ (.cons rfl .nil))⟩⟩
    | 10, _ => exact ⟨a10, valV_holes (inc_range 21).nodup (i := 10) rfl rfl, fun H => .inr ⟨_, _, _, l10, rfl, rfl, (by show 3 ≤ sizeLine; decide), .cons ⟨_, rfl⟩ (.cons ⟨_, rfl⟩ (.cons rfl .nil))⟩⟩
    | 11, _ => exact ⟨a11, valV_holes (inc_range 21).nodup (i := 11) rfl rfl, fun H => .inr ⟨_, _, _, l11, rfl, rfl, (by show 3 ≤ sizeLine; decide), .cons ⟨_, rfl⟩ (.cons ⟨_, rfl⟩ (.cons rfl .nil))⟩⟩
    | 12, _ => exact ⟨a12, valV_holes (inc_range 21).nodup (i := 12) rfl rfl, fun H => .inr ⟨_, _, _, l12, rfl, rfl, (by show 3 ≤ sizeLine; decide), .cons ⟨_, rfl⟩ (.cons ⟨_, rfl⟩ (.cons rfl .nil))⟩⟩
    | 13, _ => exact ⟨a13, valV_holes (inc_range 21).nodup (i := 13) rfl rfl, fun H => .inr ⟨_, _, _, l13, rfl, rfl, (by show 3 ≤ sizeLine; decide), .cons ⟨_, rfl⟩ (.cons ⟨_, rfl⟩ (.cons rfl .nil))⟩⟩
    | 14, _ => exact ⟨a14, valV_holes (inc_range 21).nodup (i := 14) rfl rfl, fun H => .inr ⟨_, _, _, l14, rfl, rfl, (by show 3 ≤ sizeLine; decide), .cons ⟨_, rfl⟩ (.cons ⟨_, rfl⟩ (.cons rfl .nil))⟩⟩
    | 15, _ => exact ⟨a15, valV_holes (inc_range 21).nodup (i := 15) rfl rfl, fun H => .inr ⟨_, _, _, l15, rfl, rfl, (by show 3 ≤ sizeLine; decide), .cons ⟨_, rfl⟩ (.cons ⟨_, rfl⟩ (.cons rfl .nil))⟩⟩
    | 16, _ => exact ⟨a16, valV_holes (inc_range 21).nodup (i := 16) rfl rfl, fun H => .inr ⟨_, _, _, l16, rfl, rfl, (by show 3 ≤ sizeLine; decide), .cons ⟨_, rfl⟩ (.cons ⟨_, rfl⟩ (.cons rfl .nil))⟩⟩
    | 17, _ => exact ⟨a17, valV_holes (inc_range 21).nodup (i := 17) rfl rfl, fun H => .inr ⟨_, _, _, l17, rfl, rfl, (by show 3 ≤ sizeLine; decide), .cons ⟨_, rfl⟩ (.cons ⟨_, rfl⟩ (.cons rfl .nil))⟩⟩
    | 18, _ => exact ⟨a18, valV_holes (inc_range 21).nodup (i := 18) rfl rfl, fun H => .inr ⟨_, _, _, l18, rfl, rfl, (by show 3 ≤ sizeLine; decide), .cons ⟨_, rfl⟩ (.cons ⟨_, rfl⟩ (.cons rfl .nil))⟩⟩
    | 19, _ => exact ⟨a19, valV_holes (inc_range 21).nodup (i := 19) rfl rfl, fun H => .inr ⟨_, _, _, l19, rfl, rfl, (by show 3 ≤ sizeLine; decide), .cons ⟨_, rfl⟩ (.cons ⟨_, rfl⟩ (.cons rfl .nil))⟩⟩
    | 20, _ => exact ⟨a20, valV_holes (inc_range 21).nodup (i := 20) rfl rfl, fun H => .inr ⟨_, _, _, l20, rfl, rfl, (by show 3 ≤ sizeLine; decide), .cons ⟨_, rfl⟩ (.cons ⟨_, rfl⟩ (.cons rfl .nil))⟩⟩
    | q + 21, hq => exact absurd hq (by omega)
theorem txt_mk {K : PySem.W.Frag} {mg : Str → Option Value} {h : Heap} {C tc pc : Addr} {t0 t1 t2 t3 t4 t5 t6 t7 t8 t9 t10 p0 p1 p2 p3 nT nP e0 e1 e2 e3 e4 e5 e6 e7 : Nat} {dT dP : Option Addr} {sT sP : Array (Option Value)} (X : K.In h) (G : h.Ns mainGlobals mg)
    (aC : PySem.W.nsIn K mainGlobals "CardFile" = some (some (.ref C)))
    (pg : PySem.W.plainGet K C Str.empty = true)
    (hd : PySem.W.hasDictIn K C = true)
    (po : PySem.W.plainOver K C = true)
    (sa : PySem.W.findIn K (.ref C) "__setattr__" = some (some (.builtin "object.__setattr__")))
    (na0 : PySem.W.findIn K (.ref C) "term_count" = some none)
    (na1 : PySem.W.findIn K (.ref C) "place_count" = some none)
    (na2 : PySem.W.findIn K (.ref C) "cards" = some none)
    (na3 : PySem.W.findIn K (.ref C) "holes" = some none)
    (na4 : PySem.W.findIn K (.ref C) "item_cards" = some none)
    (na5 : PySem.W.findIn K (.ref C) "lost" = some none)
    (aT : PySem.W.nsIn K mainGlobals "TERM_CARDS" = some (some (.ref tc)))
    (lT : K.lookup tc = some ⟨.type "tuple", dT, .seq #[.int 3 t0, .int 5 t1, .int 6 t2, .int 7 t3, .int 9 t4, .int 10 t5, .int 11 t6, .int 12 t7, .int 13 t8, .int 14 t9, .int 15 t10] nT, sT⟩)
    (aP : PySem.W.nsIn K mainGlobals "PART_CARDS" = some (some (.ref pc)))
    (lP : K.lookup pc = some ⟨.type "tuple", dP, .seq #[.int 1 p0, .int 2 p1, .int 4 p2, .int 8 p3] nP, sP⟩)
    (nn0 : PySem.W.nsIn K mainGlobals "range" = some none)
    (nn1 : PySem.W.nsIn K mainGlobals "len" = some none)
    (nn2 : PySem.W.nsIn K mainGlobals "sorted" = some none)
    (nn3 : PySem.W.nsIn K mainGlobals "any" = some none)
    (nn4 : PySem.W.nsIn K mainGlobals "all" = some none)
    (nn5 : PySem.W.nsIn K mainGlobals "list" = some none)
    (ci0 : PySem.W.nsIn K mainGlobals "EVEN_CARD" = some (some (.int 0 e0)))
    (ci1 : PySem.W.nsIn K mainGlobals "NOT_AS_TOLD" = some (some (.int (-1) e1)))
    (ci2 : PySem.W.nsIn K mainGlobals "FOUR_ARE_LOST" = some (some (.int (-3) e2)))
    (ci3 : PySem.W.nsIn K mainGlobals "PLACE_IS_TAKEN" = some (some (.int (-4) e3)))
    (ci4 : PySem.W.nsIn K mainGlobals "CARD_IS_LOST" = some (some (.int (-5) e4)))
    (ci5 : PySem.W.nsIn K mainGlobals "MOST_TERMS" = some (some (.int 11 e5)))
    (ci6 : PySem.W.nsIn K mainGlobals "MOST_PLACES" = some (some (.int 40 e6)))
    (ci7 : PySem.W.nsIn K mainGlobals "MOST_LOST" = some (some (.int 4 e7)))
    : Txt K mg C tc pc := by
  have g {n : Str} {v : Value} (e : PySem.W.nsIn K mainGlobals n = some (some v)) : mg n = some v := PySem.W.mg_of X G e
  have z {n : Str} (e : PySem.W.nsIn K mainGlobals n = some none) : mg n = none := PySem.W.mg_none_of X G e
  exact ⟨⟨pg, hd, po, sa⟩, na0, na1, na2, na3, na4, na5, g aC, g aT, (fun H => .inr ⟨_, _, _, lT, rfl, rfl, (by show 11 ≤ sizeLine; decide), .cons ⟨_, rfl⟩ (.cons ⟨_, rfl⟩ (.cons ⟨_, rfl⟩ (.cons ⟨_, rfl⟩ (.cons ⟨_, rfl⟩ (.cons ⟨_, rfl⟩ (.cons ⟨_, rfl⟩ (.cons ⟨_, rfl⟩ (.cons ⟨_, rfl⟩ (.cons ⟨_, rfl⟩ (.cons ⟨_, rfl⟩ (.nil)))))))))))⟩), g aP, (fun H => .inr ⟨_, _, _, lP, rfl, rfl, (by show 4 ≤ sizeLine; decide), .cons ⟨_, rfl⟩ (.cons ⟨_, rfl⟩ (.cons ⟨_, rfl⟩ (.cons ⟨_, rfl⟩ (.nil))))⟩), z nn0, z nn1, z nn2, z nn3, z nn4, z nn5, ⟨_, g ci0⟩, ⟨_, g ci1⟩, ⟨_, g ci2⟩, ⟨_, g ci3⟩, ⟨_, g ci4⟩, ⟨_, g ci5⟩, ⟨_, g ci6⟩, ⟨_, g ci7⟩⟩
theorem all_mk {P : Program} {w : World} {K : PySem.W.Frag} {h : Heap} {mg : Str → Option Value} {fa C tc pc sd : Addr} (X : K.In h) (G : h.Ns mainGlobals mg) (hfa : mg "answers" = some (.ref fa)) (T : Txt K mg C tc pc) (S : ShOk P w K mg sd) (hT : PySem.W.nsIn K mainGlobals "tuple" = some none)
    (mkc : PySem.W.makesIn K C = true) (kc : PySem.W.keepIn K (.ref C) = true)
    (r_card_of : GRaw K "card_of" s_card_of)
    (r_is_term : MRaw K C "is_term" "CardFile.is_term" m_is_term)
    (r_is_place : MRaw K C "is_place" "CardFile.is_place" m_is_place)
    (r_is_card : MRaw K C "is_card" "CardFile.is_card" m_is_card)
    (r_is_lost : MRaw K C "is_lost" "CardFile.is_lost" m_is_lost)
    (r_lost_cards : MRaw K C "lost_cards" "CardFile.lost_cards" m_lost_cards)
    (r_kept_cards : MRaw K C "kept_cards" "CardFile.kept_cards" m_kept_cards)
    (r_has_hole : MRaw K C "has_hole" "CardFile.has_hole" m_has_hole)
    (r_terms : MRaw K C "terms" "CardFile.terms" m_terms)
    (r_places : MRaw K C "places" "CardFile.places" m_places)
    (r_places_of : MRaw K C "places_of" "CardFile.places_of" m_places_of)
    (r_cards_at : MRaw K C "cards_at" "CardFile.cards_at" m_cards_at)
    (r_turn_hole : MRaw K C "turn_hole" "CardFile.turn_hole" m_turn_hole)
    (r_are_rising_below : GRaw K "are_rising_below" s_are_rising_below)
    (r_are_terms : MRaw K C "are_terms" "CardFile.are_terms" m_are_terms)
    (r_are_places : MRaw K C "are_places" "CardFile.are_places" m_are_places)
    (r_cards_for : GRaw K "cards_for" s_cards_for)
    (r_take_out : MRaw K C "take_out" "CardFile.take_out" m_take_out)
    (r_set_up : MRaw K C "set_up" "CardFile.set_up" m_set_up)
    (r_begin : MRaw K C "begin" "CardFile.begin" m_begin)
    (r___init__ : MRaw K C "__init__" "CardFile.__init__" m___init__)
    (r_counted : GRaw K "counted" s_counted)
    (r_stands_oddly : GRaw K "stands_oddly" s_stands_oddly)
    (r_item_holes : GRaw K "item_holes" s_item_holes)
    (r_set_up_file : GRaw K "set_up_file" s_set_up_file)
    (r_toggle_hole : GRaw K "toggle_hole" s_toggle_hole)
    (r_lose_card : GRaw K "lose_card" s_lose_card)
    (r_enter_item : GRaw K "enter_item" s_enter_item)
    (r_holes_of_card : GRaw K "holes_of_card" s_holes_of_card)
    (r_holes_of_term : GRaw K "holes_of_term" s_holes_of_term)
    (r_item_card_at : GRaw K "item_card_at" s_item_card_at)
    (r_still_shining : GRaw K "still_shining" s_still_shining)
    (r_shining_places : GRaw K "shining_places" s_shining_places)
    (r_places_that_shine : GRaw K "places_that_shine" s_places_that_shine)
    (r_places_found : GRaw K "places_found" s_places_found)
    (r_mark_of : GRaw K "mark_of" s_mark_of)
    (r_fillings_by_mark : GRaw K "fillings_by_mark" s_fillings_by_mark)
    (r_ways_to_read : GRaw K "ways_to_read" s_ways_to_read)
    (r_read_places : GRaw K "read_places" s_read_places)
    (r_places_unread : GRaw K "places_unread" s_places_unread)
    (r_paired : GRaw K "paired" s_paired)
    (r_wrong_holes : GRaw K "wrong_holes" s_wrong_holes)
    (r_split_calls : GRaw K "split_calls" s_split_calls)
    (r_lacks_a_term : MRaw K C "lacks_a_term" "CardFile.lacks_a_term" m_lacks_a_term)
    (r_item_has : MRaw K C "item_has" "CardFile.item_has" m_item_has)
    (r_item_count : MRaw K C "item_count" "CardFile.item_count" m_item_count)
    (r_have_all_cards : MRaw K C "have_all_cards" "CardFile.have_all_cards" m_have_all_cards)
    (r_how_many_of_each : GRaw K "how_many_of_each" s_how_many_of_each)
    (r_clear_file : GRaw K "clear_file" s_clear_file)
    (r_holes_by_item_cards : GRaw K "holes_by_item_cards" s_holes_by_item_cards)
    (r_holes_unlike_item_cards : GRaw K "holes_unlike_item_cards" s_holes_unlike_item_cards)
    (r_common_terms : GRaw K "common_terms" s_common_terms)
    (r_closed_terms : GRaw K "closed_terms" s_closed_terms)
    (r_terms_in_common : GRaw K "terms_in_common" s_terms_in_common)
    (r_terms_closed : GRaw K "terms_closed" s_terms_closed)
    (r_places_with_one_term_more : GRaw K "places_with_one_term_more" s_places_with_one_term_more)
    (r_mend_place : GRaw K "mend_place" s_mend_place)
    (r_mend_cards : GRaw K "mend_cards" s_mend_cards)
    (r_one_term_more : GRaw K "one_term_more" s_one_term_more)
    (r_first_set_alone : GRaw K "first_set_alone" s_first_set_alone)
    (r_terms_for_one_place : GRaw K "terms_for_one_place" s_terms_for_one_place)
    (r_count_concepts : GRaw K "count_concepts" s_count_concepts)
    (r_how_many_concepts : GRaw K "how_many_concepts" s_how_many_concepts)
    (r_answer_of_all_terms : GRaw K "answer_of_all_terms" s_answer_of_all_terms)
    (r_answer_question : GRaw K "answer_question" s_answer_question)
    (r_answer_call : GRaw K "answer_call" s_answer_call)
    (r_answers : GRaw K "answers" s_answers)
    : ∃ fd : FuncData, (∀ (s : Shared) (us : List Value), us.length = (["calls"] : List Str).length → BindsTo s fd ⟨us, []⟩ ((["calls"] : List Str).zip us)) ∧ ∀ base : Heap, K.In base → base.Ns mainGlobals mg → FnOk P w K mg base CX0 11 fa fd ["calls"] (spAns K) := by
  have hTu : mg "tuple" = none := PySem.W.mg_none_of X G hT
  obtain ⟨f_card_of, fd_card_of, e_card_of, k_card_of, F_card_of⟩ := r_card_of.ex
  replace e_card_of := PySem.W.mg_of X G e_card_of
  have b_card_of := F_card_of.binds (ps := ["term"]) fun _ _ _ _ _ _ us hl => match us, hl with | [_], _ => rfl
  obtain ⟨f_is_term, fd_is_term, e_is_term, F_is_term⟩ := r_is_term.ex
  have b_is_term := F_is_term.binds (ps := ["self", "number"]) fun _ _ _ _ _ _ us hl => match us, hl with | [_, _], _ => rfl
  obtain ⟨f_is_place, fd_is_place, e_is_place, F_is_place⟩ := r_is_place.ex
  have b_is_place := F_is_place.binds (ps := ["self", "number"]) fun _ _ _ _ _ _ us hl => match us, hl with | [_, _], _ => rfl
  obtain ⟨f_is_card, fd_is_card, e_is_card, F_is_card⟩ := r_is_card.ex
  have b_is_card := F_is_card.binds (ps := ["self", "number"]) fun _ _ _ _ _ _ us hl => match us, hl with | [_, _], _ => rfl
  obtain ⟨f_is_lost, fd_is_lost, e_is_lost, F_is_lost⟩ := r_is_lost.ex
  have b_is_lost := F_is_lost.binds (ps := ["self", "card"]) fun _ _ _ _ _ _ us hl => match us, hl with | [_, _], _ => rfl
  obtain ⟨f_lost_cards, fd_lost_cards, e_lost_cards, F_lost_cards⟩ := r_lost_cards.ex
  have b_lost_cards := F_lost_cards.binds (ps := ["self"]) fun _ _ _ _ _ _ us hl => match us, hl with | [_], _ => rfl
  obtain ⟨f_kept_cards, fd_kept_cards, e_kept_cards, F_kept_cards⟩ := r_kept_cards.ex
  have b_kept_cards := F_kept_cards.binds (ps := ["self"]) fun _ _ _ _ _ _ us hl => match us, hl with | [_], _ => rfl
  obtain ⟨f_has_hole, fd_has_hole, e_has_hole, F_has_hole⟩ := r_has_hole.ex
  have b_has_hole := F_has_hole.binds (ps := ["self", "card", "place"]) fun _ _ _ _ _ _ us hl => match us, hl with | [_, _, _], _ => rfl
  obtain ⟨f_terms, fd_terms, e_terms, F_terms⟩ := r_terms.ex
  have b_terms := F_terms.binds (ps := ["self"]) fun _ _ _ _ _ _ us hl => match us, hl with | [_], _ => rfl
  obtain ⟨f_places, fd_places, e_places, F_places⟩ := r_places.ex
  have b_places := F_places.binds (ps := ["self"]) fun _ _ _ _ _ _ us hl => match us, hl with | [_], _ => rfl
  obtain ⟨f_places_of, fd_places_of, e_places_of, F_places_of⟩ := r_places_of.ex
  have b_places_of := F_places_of.binds (ps := ["self", "card"]) fun _ _ _ _ _ _ us hl => match us, hl with | [_, _], _ => rfl
  obtain ⟨f_cards_at, fd_cards_at, e_cards_at, F_cards_at⟩ := r_cards_at.ex
  have b_cards_at := F_cards_at.binds (ps := ["self", "place"]) fun _ _ _ _ _ _ us hl => match us, hl with | [_, _], _ => rfl
  obtain ⟨f_turn_hole, fd_turn_hole, e_turn_hole, F_turn_hole⟩ := r_turn_hole.ex
  have b_turn_hole := F_turn_hole.binds (ps := ["self", "card", "place"]) fun _ _ _ _ _ _ us hl => match us, hl with | [_, _, _], _ => rfl
  obtain ⟨f_are_rising_below, fd_are_rising_below, e_are_rising_below, k_are_rising_below, F_are_rising_below⟩ := r_are_rising_below.ex
  replace e_are_rising_below := PySem.W.mg_of X G e_are_rising_below
  have b_are_rising_below := F_are_rising_below.binds (ps := ["numbers", "limit"]) fun _ _ _ _ _ _ us hl => match us, hl with | [_, _], _ => rfl
  obtain ⟨f_are_terms, fd_are_terms, e_are_terms, F_are_terms⟩ := r_are_terms.ex
  have b_are_terms := F_are_terms.binds (ps := ["self", "numbers"]) fun _ _ _ _ _ _ us hl => match us, hl with | [_, _], _ => rfl
  obtain ⟨f_are_places, fd_are_places, e_are_places, F_are_places⟩ := r_are_places.ex
  have b_are_places := F_are_places.binds (ps := ["self", "numbers"]) fun _ _ _ _ _ _ us hl => match us, hl with | [_, _], _ => rfl
  obtain ⟨f_cards_for, fd_cards_for, e_cards_for, k_cards_for, F_cards_for⟩ := r_cards_for.ex
  replace e_cards_for := PySem.W.mg_of X G e_cards_for
  have b_cards_for := F_cards_for.binds (ps := ["term_count"]) fun _ _ _ _ _ _ us hl => match us, hl with | [_], _ => rfl
  obtain ⟨f_take_out, fd_take_out, e_take_out, F_take_out⟩ := r_take_out.ex
  have b_take_out := F_take_out.binds (ps := ["self", "card"]) fun _ _ _ _ _ _ us hl => match us, hl with | [_, _], _ => rfl
  obtain ⟨f_set_up, fd_set_up, e_set_up, F_set_up⟩ := r_set_up.ex
  have b_set_up := F_set_up.binds (ps := ["self", "term_count", "place_count"]) fun _ _ _ _ _ _ us hl => match us, hl with | [_, _, _], _ => rfl
  obtain ⟨f_begin, fd_begin, e_begin, F_begin⟩ := r_begin.ex
  have b_begin := F_begin.binds (ps := ["self"]) fun _ _ _ _ _ _ us hl => match us, hl with | [_], _ => rfl
  obtain ⟨f___init__, fd___init__, e___init__, F___init__⟩ := r___init__.ex
  have b___init__ := F___init__.binds (ps := ["self"]) fun _ _ _ _ _ _ us hl => match us, hl with | [_], _ => rfl
  obtain ⟨f_counted, fd_counted, e_counted, k_counted, F_counted⟩ := r_counted.ex
  replace e_counted := PySem.W.mg_of X G e_counted
  have b_counted := F_counted.binds (ps := ["numbers"]) fun _ _ _ _ _ _ us hl => match us, hl with | [_], _ => rfl
  obtain ⟨f_stands_oddly, fd_stands_oddly, e_stands_oddly, k_stands_oddly, F_stands_oddly⟩ := r_stands_oddly.ex
  replace e_stands_oddly := PySem.W.mg_of X G e_stands_oddly
  have b_stands_oddly := F_stands_oddly.binds (ps := ["part", "cards"]) fun _ _ _ _ _ _ us hl => match us, hl with | [_, _], _ => rfl
  obtain ⟨f_item_holes, fd_item_holes, e_item_holes, k_item_holes, F_item_holes⟩ := r_item_holes.ex
  replace e_item_holes := PySem.W.mg_of X G e_item_holes
  have b_item_holes := F_item_holes.binds (ps := ["terms"]) fun _ _ _ _ _ _ us hl => match us, hl with | [_], _ => rfl
  obtain ⟨f_set_up_file, fd_set_up_file, e_set_up_file, k_set_up_file, F_set_up_file⟩ := r_set_up_file.ex
  replace e_set_up_file := PySem.W.mg_of X G e_set_up_file
  have b_set_up_file := F_set_up_file.binds (ps := ["card_file", "term_count", "place_count"]) fun _ _ _ _ _ _ us hl => match us, hl with | [_, _, _], _ => rfl
  obtain ⟨f_toggle_hole, fd_toggle_hole, e_toggle_hole, k_toggle_hole, F_toggle_hole⟩ := r_toggle_hole.ex
  replace e_toggle_hole := PySem.W.mg_of X G e_toggle_hole
  have b_toggle_hole := F_toggle_hole.binds (ps := ["card_file", "card", "place"]) fun _ _ _ _ _ _ us hl => match us, hl with | [_, _, _], _ => rfl
  obtain ⟨f_lose_card, fd_lose_card, e_lose_card, k_lose_card, F_lose_card⟩ := r_lose_card.ex
  replace e_lose_card := PySem.W.mg_of X G e_lose_card
  have b_lose_card := F_lose_card.binds (ps := ["card_file", "card"]) fun _ _ _ _ _ _ us hl => match us, hl with | [_, _], _ => rfl
  obtain ⟨f_enter_item, fd_enter_item, e_enter_item, k_enter_item, F_enter_item⟩ := r_enter_item.ex
  replace e_enter_item := PySem.W.mg_of X G e_enter_item
  have b_enter_item := F_enter_item.binds (ps := ["card_file", "place", "terms"]) fun _ _ _ _ _ _ us hl => match us, hl with | [_, _, _], _ => rfl
  obtain ⟨f_holes_of_card, fd_holes_of_card, e_holes_of_card, k_holes_of_card, F_holes_of_card⟩ := r_holes_of_card.ex
  replace e_holes_of_card := PySem.W.mg_of X G e_holes_of_card
  have b_holes_of_card := F_holes_of_card.binds (ps := ["card_file", "card"]) fun _ _ _ _ _ _ us hl => match us, hl with | [_, _], _ => rfl
  obtain ⟨f_holes_of_term, fd_holes_of_term, e_holes_of_term, k_holes_of_term, F_holes_of_term⟩ := r_holes_of_term.ex
  replace e_holes_of_term := PySem.W.mg_of X G e_holes_of_term
  have b_holes_of_term := F_holes_of_term.binds (ps := ["card_file", "term"]) fun _ _ _ _ _ _ us hl => match us, hl with | [_, _], _ => rfl
  obtain ⟨f_item_card_at, fd_item_card_at, e_item_card_at, k_item_card_at, F_item_card_at⟩ := r_item_card_at.ex
  replace e_item_card_at := PySem.W.mg_of X G e_item_card_at
  have b_item_card_at := F_item_card_at.binds (ps := ["card_file", "place"]) fun _ _ _ _ _ _ us hl => match us, hl with | [_, _], _ => rfl
  obtain ⟨f_still_shining, fd_still_shining, e_still_shining, k_still_shining, F_still_shining⟩ := r_still_shining.ex
  replace e_still_shining := PySem.W.mg_of X G e_still_shining
  have b_still_shining := F_still_shining.binds (ps := ["card_file", "places", "term"]) fun _ _ _ _ _ _ us hl => match us, hl with | [_, _, _], _ => rfl
  obtain ⟨f_shining_places, fd_shining_places, e_shining_places, k_shining_places, F_shining_places⟩ := r_shining_places.ex
  replace e_shining_places := PySem.W.mg_of X G e_shining_places
  have b_shining_places := F_shining_places.binds (ps := ["card_file", "terms"]) fun _ _ _ _ _ _ us hl => match us, hl with | [_, _], _ => rfl
  obtain ⟨f_places_that_shine, fd_places_that_shine, e_places_that_shine, k_places_that_shine, F_places_that_shine⟩ := r_places_that_shine.ex
  replace e_places_that_shine := PySem.W.mg_of X G e_places_that_shine
  have b_places_that_shine := F_places_that_shine.binds (ps := ["card_file", "terms"]) fun _ _ _ _ _ _ us hl => match us, hl with | [_, _], _ => rfl
  obtain ⟨f_places_found, fd_places_found, e_places_found, k_places_found, F_places_found⟩ := r_places_found.ex
  replace e_places_found := PySem.W.mg_of X G e_places_found
  have b_places_found := F_places_found.binds (ps := ["card_file", "terms"]) fun _ _ _ _ _ _ us hl => match us, hl with | [_, _], _ => rfl
  obtain ⟨f_mark_of, fd_mark_of, e_mark_of, k_mark_of, F_mark_of⟩ := r_mark_of.ex
  replace e_mark_of := PySem.W.mg_of X G e_mark_of
  have b_mark_of := F_mark_of.binds (ps := ["cards"]) fun _ _ _ _ _ _ us hl => match us, hl with | [_], _ => rfl
  obtain ⟨f_fillings_by_mark, fd_fillings_by_mark, e_fillings_by_mark, k_fillings_by_mark, F_fillings_by_mark⟩ := r_fillings_by_mark.ex
  replace e_fillings_by_mark := PySem.W.mg_of X G e_fillings_by_mark
  have b_fillings_by_mark := F_fillings_by_mark.binds (ps := ["lost_cards"]) fun _ _ _ _ _ _ us hl => match us, hl with | [_], _ => rfl
  obtain ⟨f_ways_to_read, fd_ways_to_read, e_ways_to_read, k_ways_to_read, F_ways_to_read⟩ := r_ways_to_read.ex
  replace e_ways_to_read := PySem.W.mg_of X G e_ways_to_read
  have b_ways_to_read := F_ways_to_read.binds (ps := ["mark", "kept_cards", "by_mark"]) fun _ _ _ _ _ _ us hl => match us, hl with | [_, _, _], _ => rfl
  obtain ⟨f_read_places, fd_read_places, e_read_places, k_read_places, F_read_places⟩ := r_read_places.ex
  replace e_read_places := PySem.W.mg_of X G e_read_places
  have b_read_places := F_read_places.binds (ps := ["card_file"]) fun _ _ _ _ _ _ us hl => match us, hl with | [_], _ => rfl
  obtain ⟨f_places_unread, fd_places_unread, e_places_unread, k_places_unread, F_places_unread⟩ := r_places_unread.ex
  replace e_places_unread := PySem.W.mg_of X G e_places_unread
  have b_places_unread := F_places_unread.binds (ps := ["card_file"]) fun _ _ _ _ _ _ us hl => match us, hl with | [_], _ => rfl
  obtain ⟨f_paired, fd_paired, e_paired, k_paired, F_paired⟩ := r_paired.ex
  replace e_paired := PySem.W.mg_of X G e_paired
  have b_paired := F_paired.binds (ps := ["pairs"]) fun _ _ _ _ _ _ us hl => match us, hl with | [_], _ => rfl
  obtain ⟨f_wrong_holes, fd_wrong_holes, e_wrong_holes, k_wrong_holes, F_wrong_holes⟩ := r_wrong_holes.ex
  replace e_wrong_holes := PySem.W.mg_of X G e_wrong_holes
  have b_wrong_holes := F_wrong_holes.binds (ps := ["card_file"]) fun _ _ _ _ _ _ us hl => match us, hl with | [_], _ => rfl
  obtain ⟨f_split_calls, fd_split_calls, e_split_calls, k_split_calls, F_split_calls⟩ := r_split_calls.ex
  replace e_split_calls := PySem.W.mg_of X G e_split_calls
  have b_split_calls := F_split_calls.binds (ps := ["calls"]) fun _ _ _ _ _ _ us hl => match us, hl with | [_], _ => rfl
  obtain ⟨f_lacks_a_term, fd_lacks_a_term, e_lacks_a_term, F_lacks_a_term⟩ := r_lacks_a_term.ex
  have b_lacks_a_term := F_lacks_a_term.binds (ps := ["self"]) fun _ _ _ _ _ _ us hl => match us, hl with | [_], _ => rfl
  obtain ⟨f_item_has, fd_item_has, e_item_has, F_item_has⟩ := r_item_has.ex
  have b_item_has := F_item_has.binds (ps := ["self", "place", "term"]) fun _ _ _ _ _ _ us hl => match us, hl with | [_, _, _], _ => rfl
  obtain ⟨f_item_count, fd_item_count, e_item_count, F_item_count⟩ := r_item_count.ex
  have b_item_count := F_item_count.binds (ps := ["self"]) fun _ _ _ _ _ _ us hl => match us, hl with | [_], _ => rfl
  obtain ⟨f_have_all_cards, fd_have_all_cards, e_have_all_cards, F_have_all_cards⟩ := r_have_all_cards.ex
  have b_have_all_cards := F_have_all_cards.binds (ps := ["self"]) fun _ _ _ _ _ _ us hl => match us, hl with | [_], _ => rfl
  obtain ⟨f_how_many_of_each, fd_how_many_of_each, e_how_many_of_each, k_how_many_of_each, F_how_many_of_each⟩ := r_how_many_of_each.ex
  replace e_how_many_of_each := PySem.W.mg_of X G e_how_many_of_each
  have b_how_many_of_each := F_how_many_of_each.binds (ps := ["card_file"]) fun _ _ _ _ _ _ us hl => match us, hl with | [_], _ => rfl
  obtain ⟨f_clear_file, fd_clear_file, e_clear_file, k_clear_file, F_clear_file⟩ := r_clear_file.ex
  replace e_clear_file := PySem.W.mg_of X G e_clear_file
  have b_clear_file := F_clear_file.binds (ps := ["card_file"]) fun _ _ _ _ _ _ us hl => match us, hl with | [_], _ => rfl
  obtain ⟨f_holes_by_item_cards, fd_holes_by_item_cards, e_holes_by_item_cards, k_holes_by_item_cards, F_holes_by_item_cards⟩ := r_holes_by_item_cards.ex
  replace e_holes_by_item_cards := PySem.W.mg_of X G e_holes_by_item_cards
  have b_holes_by_item_cards := F_holes_by_item_cards.binds (ps := ["card_file", "term"]) fun _ _ _ _ _ _ us hl => match us, hl with | [_, _], _ => rfl
  obtain ⟨f_holes_unlike_item_cards, fd_holes_unlike_item_cards, e_holes_unlike_item_cards, k_holes_unlike_item_cards, F_holes_unlike_item_cards⟩ := r_holes_unlike_item_cards.ex
  replace e_holes_unlike_item_cards := PySem.W.mg_of X G e_holes_unlike_item_cards
  have b_holes_unlike_item_cards := F_holes_unlike_item_cards.binds (ps := ["card_file"]) fun _ _ _ _ _ _ us hl => match us, hl with | [_], _ => rfl
  obtain ⟨f_common_terms, fd_common_terms, e_common_terms, k_common_terms, F_common_terms⟩ := r_common_terms.ex
  replace e_common_terms := PySem.W.mg_of X G e_common_terms
  have b_common_terms := F_common_terms.binds (ps := ["card_file", "places"]) fun _ _ _ _ _ _ us hl => match us, hl with | [_, _], _ => rfl
  obtain ⟨f_closed_terms, fd_closed_terms, e_closed_terms, k_closed_terms, F_closed_terms⟩ := r_closed_terms.ex
  replace e_closed_terms := PySem.W.mg_of X G e_closed_terms
  have b_closed_terms := F_closed_terms.binds (ps := ["card_file", "terms"]) fun _ _ _ _ _ _ us hl => match us, hl with | [_, _], _ => rfl
  obtain ⟨f_terms_in_common, fd_terms_in_common, e_terms_in_common, k_terms_in_common, F_terms_in_common⟩ := r_terms_in_common.ex
  replace e_terms_in_common := PySem.W.mg_of X G e_terms_in_common
  have b_terms_in_common := F_terms_in_common.binds (ps := ["card_file", "places"]) fun _ _ _ _ _ _ us hl => match us, hl with | [_, _], _ => rfl
  obtain ⟨f_terms_closed, fd_terms_closed, e_terms_closed, k_terms_closed, F_terms_closed⟩ := r_terms_closed.ex
  replace e_terms_closed := PySem.W.mg_of X G e_terms_closed
  have b_terms_closed := F_terms_closed.binds (ps := ["card_file", "terms"]) fun _ _ _ _ _ _ us hl => match us, hl with | [_, _], _ => rfl
  obtain ⟨f_places_with_one_term_more, fd_places_with_one_term_more, e_places_with_one_term_more, k_places_with_one_term_more, F_places_with_one_term_more⟩ := r_places_with_one_term_more.ex
  replace e_places_with_one_term_more := PySem.W.mg_of X G e_places_with_one_term_more
  have b_places_with_one_term_more := F_places_with_one_term_more.binds (ps := ["card_file", "terms"]) fun _ _ _ _ _ _ us hl => match us, hl with | [_, _], _ => rfl
  obtain ⟨f_mend_place, fd_mend_place, e_mend_place, k_mend_place, F_mend_place⟩ := r_mend_place.ex
  replace e_mend_place := PySem.W.mg_of X G e_mend_place
  have b_mend_place := F_mend_place.binds (ps := ["card_file", "place", "way"]) fun _ _ _ _ _ _ us hl => match us, hl with | [_, _, _], _ => rfl
  obtain ⟨f_mend_cards, fd_mend_cards, e_mend_cards, k_mend_cards, F_mend_cards⟩ := r_mend_cards.ex
  replace e_mend_cards := PySem.W.mg_of X G e_mend_cards
  have b_mend_cards := F_mend_cards.binds (ps := ["card_file"]) fun _ _ _ _ _ _ us hl => match us, hl with | [_], _ => rfl
  obtain ⟨f_one_term_more, fd_one_term_more, e_one_term_more, k_one_term_more, F_one_term_more⟩ := r_one_term_more.ex
  replace e_one_term_more := PySem.W.mg_of X G e_one_term_more
  have b_one_term_more := F_one_term_more.binds (ps := ["card_file", "lit_sets"]) fun _ _ _ _ _ _ us hl => match us, hl with | [_, _], _ => rfl
  obtain ⟨f_first_set_alone, fd_first_set_alone, e_first_set_alone, k_first_set_alone, F_first_set_alone⟩ := r_first_set_alone.ex
  replace e_first_set_alone := PySem.W.mg_of X G e_first_set_alone
  have b_first_set_alone := F_first_set_alone.binds (ps := ["card_file", "place"]) fun _ _ _ _ _ _ us hl => match us, hl with | [_, _], _ => rfl
  obtain ⟨f_terms_for_one_place, fd_terms_for_one_place, e_terms_for_one_place, k_terms_for_one_place, F_terms_for_one_place⟩ := r_terms_for_one_place.ex
  replace e_terms_for_one_place := PySem.W.mg_of X G e_terms_for_one_place
  have b_terms_for_one_place := F_terms_for_one_place.binds (ps := ["card_file", "place"]) fun _ _ _ _ _ _ us hl => match us, hl with | [_, _], _ => rfl
  obtain ⟨f_count_concepts, fd_count_concepts, e_count_concepts, k_count_concepts, F_count_concepts⟩ := r_count_concepts.ex
  replace e_count_concepts := PySem.W.mg_of X G e_count_concepts
  have b_count_concepts := F_count_concepts.binds (ps := ["card_file"]) fun _ _ _ _ _ _ us hl => match us, hl with | [_], _ => rfl
  obtain ⟨f_how_many_concepts, fd_how_many_concepts, e_how_many_concepts, k_how_many_concepts, F_how_many_concepts⟩ := r_how_many_concepts.ex
  replace e_how_many_concepts := PySem.W.mg_of X G e_how_many_concepts
  have b_how_many_concepts := F_how_many_concepts.binds (ps := ["card_file"]) fun _ _ _ _ _ _ us hl => match us, hl with | [_], _ => rfl
  obtain ⟨f_answer_of_all_terms, fd_answer_of_all_terms, e_answer_of_all_terms, k_answer_of_all_terms, F_answer_of_all_terms⟩ := r_answer_of_all_terms.ex
  replace e_answer_of_all_terms := PySem.W.mg_of X G e_answer_of_all_terms
  have b_answer_of_all_terms := F_answer_of_all_terms.binds (ps := ["card_file", "name", "numbers", "row"]) fun _ _ _ _ _ _ us hl => match us, hl with | [_, _, _, _], _ => rfl
  obtain ⟨f_answer_question, fd_answer_question, e_answer_question, k_answer_question, F_answer_question⟩ := r_answer_question.ex
  replace e_answer_question := PySem.W.mg_of X G e_answer_question
  have b_answer_question := F_answer_question.binds (ps := ["card_file", "name", "numbers", "row"]) fun _ _ _ _ _ _ us hl => match us, hl with | [_, _, _, _], _ => rfl
  obtain ⟨f_answer_call, fd_answer_call, e_answer_call, k_answer_call, F_answer_call⟩ := r_answer_call.ex
  replace e_answer_call := PySem.W.mg_of X G e_answer_call
  have b_answer_call := F_answer_call.binds (ps := ["card_file", "name", "numbers", "row"]) fun _ _ _ _ _ _ us hl => match us, hl with | [_, _, _, _], _ => rfl
  obtain ⟨f_a, fd_a, e_a, k_a, F_a⟩ := r_answers.ex
  have e := hfa.symm.trans (PySem.W.mg_of X G e_a)
  cases e
  refine ⟨fd_a, fun s us hu => ?_, fun base _ _ => ?_⟩
  · obtain ⟨oc, od, kV, doc, pm, an, cdv, ct, osl, rfl, lk, hcd⟩ := F_a.ex
    exact match us, hu with | [_], _ => .of_eq rfl
  · have g_card_of : GOk P w K mg base "card_of" 1 ["term"] spCardOf := ⟨⟨_, _, e_card_of, k_card_of, b_card_of, ok_card_of F_card_of T⟩⟩
    have g_is_term : MOk P w K mg base C "is_term" 1 ["self", "number"] (spIsTerm C) := ⟨⟨_, _, e_is_term, b_is_term, ok_is_term F_is_term T⟩⟩
    have g_is_place : MOk P w K mg base C "is_place" 1 ["self", "number"] (spIsPlace C) := ⟨⟨_, _, e_is_place, b_is_place, ok_is_place F_is_place T⟩⟩
    have g_is_card : MOk P w K mg base C "is_card" 1 ["self", "number"] (spIsCard C) := ⟨⟨_, _, e_is_card, b_is_card, ok_is_card F_is_card T⟩⟩
    have g_is_lost : MOk P w K mg base C "is_lost" 1 ["self", "card"] (spIsLost C) := ⟨⟨_, _, e_is_lost, b_is_lost, ok_is_lost F_is_lost T⟩⟩
    have g_lost_cards : MOk P w K mg base C "lost_cards" 2 ["self"] (spCards C (·.lost)) := ⟨⟨_, _, e_lost_cards, b_lost_cards, ok_lost_cards F_lost_cards T g_is_lost⟩⟩
    have g_kept_cards : MOk P w K mg base C "kept_cards" 2 ["self"] (spCards C kept) := ⟨⟨_, _, e_kept_cards, b_kept_cards, ok_kept_cards F_kept_cards T g_is_lost⟩⟩
    have g_has_hole : MOk P w K mg base C "has_hole" 1 ["self", "card", "place"] (spHasHole C) := ⟨⟨_, _, e_has_hole, b_has_hole, ok_has_hole F_has_hole T⟩⟩
    have g_terms : MOk P w K mg base C "terms" 1 ["self"] (spCards C termsOf) := ⟨⟨_, _, e_terms, b_terms, ok_terms F_terms T⟩⟩
    have g_places : MOk P w K mg base C "places" 1 ["self"] (spCards C placesOf) := ⟨⟨_, _, e_places, b_places, ok_places F_places T⟩⟩
    have g_places_of : MOk P w K mg base C "places_of" 2 ["self", "card"] (spPlacesOf C) := ⟨⟨_, _, e_places_of, b_places_of, ok_places_of F_places_of T g_places g_has_hole⟩⟩
    have g_cards_at : MOk P w K mg base C "cards_at" 2 ["self", "place"] (spCardsAt C) := ⟨⟨_, _, e_cards_at, b_cards_at, ok_cards_at F_cards_at T g_has_hole⟩⟩
    have g_turn_hole : MOk P w K mg base C "turn_hole" 1 ["self", "card", "place"] (spTurnHole C) := ⟨⟨_, _, e_turn_hole, b_turn_hole, ok_turn_hole F_turn_hole T⟩⟩
    have g_are_rising_below : GOk P w K mg base "are_rising_below" 1 ["numbers", "limit"] (spRising K) := ⟨⟨_, _, e_are_rising_below, k_are_rising_below, b_are_rising_below, ok_rising F_are_rising_below T⟩⟩
    have g_are_terms : MOk P w K mg base C "are_terms" 2 ["self", "numbers"] (spAreTerms K C) := ⟨⟨_, _, e_are_terms, b_are_terms, ok_are_terms F_are_terms T g_are_rising_below⟩⟩
    have g_are_places : MOk P w K mg base C "are_places" 2 ["self", "numbers"] (spArePlaces K C) := ⟨⟨_, _, e_are_places, b_are_places, ok_are_places F_are_places T g_are_rising_below⟩⟩
    have g_cards_for : GOk P w K mg base "cards_for" 1 ["term_count"] spCardsFor := ⟨⟨_, _, e_cards_for, k_cards_for, b_cards_for, ok_cards_for F_cards_for T⟩⟩
    have g_take_out : MOk P w K mg base C "take_out" 1 ["self", "card"] (spTakeOut C) := ⟨⟨_, _, e_take_out, b_take_out, ok_take_out F_take_out T⟩⟩
    have g_set_up : MOk P w K mg base C "set_up" 2 ["self", "term_count", "place_count"] (spSetUp C) := ⟨⟨_, _, e_set_up, b_set_up, ok_set_up F_set_up T g_cards_for⟩⟩
    have g_begin : MOk P w K mg base C "begin" 3 ["self"] (spBegin C) := ⟨⟨_, _, e_begin, b_begin, ok_begin F_begin T g_set_up⟩⟩
    have g_init : FnOk P w K mg base CX0 4 f___init__ fd___init__ ["self"] (spInit C) := ok_init F___init__ T g_begin
    have g_counted : GOk P w K mg base "counted" 1 ["numbers"] spCounted := ⟨⟨_, _, e_counted, k_counted, b_counted, ok_counted F_counted T⟩⟩
    have g_stands_oddly : GOk P w K mg base "stands_oddly" 1 ["part", "cards"] (spOdd K) := ⟨⟨_, _, e_stands_oddly, k_stands_oddly, b_stands_oddly, ok_stands_oddly F_stands_oddly T⟩⟩
    have g_item_holes : GOk P w K mg base "item_holes" 2 ["terms"] (spItemHoles K) := ⟨⟨_, _, e_item_holes, k_item_holes, b_item_holes, ok_item_holes F_item_holes T g_card_of g_stands_oddly⟩⟩
    have g_set_up_file : GOk P w K mg base "set_up_file" 3 ["card_file", "term_count", "place_count"] (spFile C) := ⟨⟨_, _, e_set_up_file, k_set_up_file, b_set_up_file, ok_set_up_file F_set_up_file T g_set_up⟩⟩
    have g_toggle_hole : GOk P w K mg base "toggle_hole" 2 ["card_file", "card", "place"] (spToggle C) := ⟨⟨_, _, e_toggle_hole, k_toggle_hole, b_toggle_hole, ok_toggle_hole F_toggle_hole T g_is_card g_is_place g_is_lost g_turn_hole g_has_hole⟩⟩
    have g_lose_card : GOk P w K mg base "lose_card" 2 ["card_file", "card"] (spLose C) := ⟨⟨_, _, e_lose_card, k_lose_card, b_lose_card, ok_lose_card F_lose_card T g_is_card g_is_lost g_take_out⟩⟩
    have g_enter_item : GOk P w K mg base "enter_item" 3 ["card_file", "place", "terms"] (spItem K C) := ⟨⟨_, _, e_enter_item, k_enter_item, b_enter_item, ok_enter_item F_enter_item T g_is_place g_are_terms g_item_holes g_turn_hole g_counted⟩⟩
    have g_holes_of_card : GOk P w K mg base "holes_of_card" 3 ["card_file", "card"] (spCheck C) := ⟨⟨_, _, e_holes_of_card, k_holes_of_card, b_holes_of_card, ok_holes_of_card F_holes_of_card T g_is_card g_is_lost g_places_of g_counted⟩⟩
    have g_holes_of_term : GOk P w K mg base "holes_of_term" 4 ["card_file", "term"] (spTerm C) := ⟨⟨_, _, e_holes_of_term, k_holes_of_term, b_holes_of_term, ok_holes_of_term F_holes_of_term T g_is_term g_card_of g_holes_of_card⟩⟩
    have g_item_card_at : GOk P w K mg base "item_card_at" 2 ["card_file", "place"] (spItemCard C) := ⟨⟨_, _, e_item_card_at, k_item_card_at, b_item_card_at, ok_item_card_at F_item_card_at T g_is_place g_counted⟩⟩
    have g_still_shining : GOk P w K mg base "still_shining" 2 ["card_file", "places", "term"] (spStill K C) := ⟨⟨_, _, e_still_shining, k_still_shining, b_still_shining, ok_still F_still_shining T g_card_of g_has_hole⟩⟩
    have g_shining_places : GOk P w K mg base "shining_places" 3 ["card_file", "terms"] (spShining K C) := ⟨⟨_, _, e_shining_places, k_shining_places, b_shining_places, ok_shining F_shining_places T g_places g_still_shining⟩⟩
    have g_places_that_shine : GOk P w K mg base "places_that_shine" 4 ["card_file", "terms"] (spLight K C) := ⟨⟨_, _, e_places_that_shine, k_places_that_shine, b_places_that_shine, ok_shine F_places_that_shine T g_are_terms g_card_of g_is_lost g_shining_places g_counted⟩⟩
    have g_places_found : GOk P w K mg base "places_found" 3 ["card_file", "terms"] (spFound K C) := ⟨⟨_, _, e_places_found, k_places_found, b_places_found, ok_found F_places_found T g_are_terms g_places g_counted⟩⟩
    have g_mark_of : GOk P w K mg base "mark_of" 1 ["cards"] (spMark K) := ⟨⟨_, _, e_mark_of, k_mark_of, b_mark_of, ok_mark_of F_mark_of T⟩⟩
    have g_fillings_by_mark : GOk P w K mg base "fillings_by_mark" 2 ["lost_cards"] (spFillings K) := ⟨⟨_, _, e_fillings_by_mark, k_fillings_by_mark, b_fillings_by_mark, ok_fillings F_fillings_by_mark T g_mark_of⟩⟩
    have g_ways_to_read : GOk P w K mg base "ways_to_read" 2 ["mark", "kept_cards", "by_mark"] (spWays K) := ⟨⟨_, _, e_ways_to_read, k_ways_to_read, b_ways_to_read, ok_ways F_ways_to_read T g_mark_of⟩⟩
    have g_read_places : GOk P w K mg base "read_places" 3 ["card_file"] (spRead C) := ⟨⟨_, _, e_read_places, k_read_places, b_read_places, ok_read F_read_places T g_kept_cards g_lost_cards g_cards_at g_mark_of g_fillings_by_mark g_ways_to_read⟩⟩
    have g_places_unread : GOk P w K mg base "places_unread" 4 ["card_file"] (spUnread C) := ⟨⟨_, _, e_places_unread, k_places_unread, b_places_unread, ok_unread F_places_unread T g_read_places g_counted⟩⟩
    have g_paired : GOk P w K mg base "paired" 1 ["pairs"] spPaired := ⟨⟨_, _, e_paired, k_paired, b_paired, ok_paired F_paired T⟩⟩
    have g_wrong_holes : GOk P w K mg base "wrong_holes" 4 ["card_file"] (spWrong C) := ⟨⟨_, _, e_wrong_holes, k_wrong_holes, b_wrong_holes, ok_wrong F_wrong_holes T g_read_places g_paired⟩⟩
    have g_split_calls : GOk P w K mg base "split_calls" 1 ["calls"] (spSplit K) := ⟨⟨_, _, e_split_calls, k_split_calls, b_split_calls, ok_split F_split_calls T S⟩⟩
    have g_lacks_a_term : MOk P w K mg base C "lacks_a_term" 2 ["self"] (spLacks C) := ⟨⟨_, _, e_lacks_a_term, b_lacks_a_term, ok_lacks F_lacks_a_term T g_terms g_card_of g_is_lost⟩⟩
    have g_item_has : MOk P w K mg base C "item_has" 1 ["self", "place", "term"] (spItemHas C) := ⟨⟨_, _, e_item_has, b_item_has, ok_item_has F_item_has T⟩⟩
    have g_item_count : MOk P w K mg base C "item_count" 1 ["self"] (spItemCount C) := ⟨⟨_, _, e_item_count, b_item_count, ok_item_count F_item_count T⟩⟩
    have g_have_all_cards : MOk P w K mg base C "have_all_cards" 1 ["self"] (spHaveAll C) := ⟨⟨_, _, e_have_all_cards, b_have_all_cards, ok_have_all F_have_all_cards T⟩⟩
    have g_how_many_of_each : GOk P w K mg base "how_many_of_each" 2 ["card_file"] (spCounts C) := ⟨⟨_, _, e_how_many_of_each, k_how_many_of_each, b_how_many_of_each, ok_counts F_how_many_of_each T g_item_count⟩⟩
    have g_clear_file : GOk P w K mg base "clear_file" 4 ["card_file"] (spClear C) := ⟨⟨_, _, e_clear_file, k_clear_file, b_clear_file, ok_clear F_clear_file T g_begin⟩⟩
    have g_holes_by_item_cards : GOk P w K mg base "holes_by_item_cards" 2 ["card_file", "term"] (spAnew C) := ⟨⟨_, _, e_holes_by_item_cards, k_holes_by_item_cards, b_holes_by_item_cards, ok_anew F_holes_by_item_cards T g_is_term g_places g_item_has g_counted⟩⟩
    have g_holes_unlike_item_cards : GOk P w K mg base "holes_unlike_item_cards" 2 ["card_file"] (spUnlike C) := ⟨⟨_, _, e_holes_unlike_item_cards, k_holes_unlike_item_cards, b_holes_unlike_item_cards, ok_unlike F_holes_unlike_item_cards T g_terms g_places g_card_of g_is_lost g_has_hole g_item_has g_paired⟩⟩
    have g_common_terms : GOk P w K mg base "common_terms" 3 ["card_file", "places"] (spCommon K C) := ⟨⟨_, _, e_common_terms, k_common_terms, b_common_terms, ok_common F_common_terms T g_terms g_still_shining⟩⟩
    have g_closed_terms : GOk P w K mg base "closed_terms" 4 ["card_file", "terms"] (spClosed K C) := ⟨⟨_, _, e_closed_terms, k_closed_terms, b_closed_terms, ok_closed F_closed_terms T g_common_terms g_shining_places⟩⟩
    have g_terms_in_common : GOk P w K mg base "terms_in_common" 4 ["card_file", "places"] (spCall14 K C 14) := ⟨⟨_, _, e_terms_in_common, k_terms_in_common, b_terms_in_common, ok_c14 F_terms_in_common T g_are_places g_lacks_a_term g_common_terms g_counted⟩⟩
    have g_terms_closed : GOk P w K mg base "terms_closed" 5 ["card_file", "terms"] (spCall14 K C 15) := ⟨⟨_, _, e_terms_closed, k_terms_closed, b_terms_closed, ok_c15 F_terms_closed T g_are_terms g_lacks_a_term g_closed_terms g_counted⟩⟩
    have g_places_with_one_term_more : GOk P w K mg base "places_with_one_term_more" 4 ["card_file", "terms"] (spCall14 K C 18) := ⟨⟨_, _, e_places_with_one_term_more, k_places_with_one_term_more, b_places_with_one_term_more, ok_c18 F_places_with_one_term_more T g_are_terms g_lacks_a_term g_terms g_shining_places g_still_shining⟩⟩
    have g_mend_place : GOk P w K mg base "mend_place" 2 ["card_file", "place", "way"] (spMendPlace C) := ⟨⟨_, _, e_mend_place, k_mend_place, b_mend_place, ok_mend_place F_mend_place T g_turn_hole⟩⟩
    have g_mend_cards : GOk P w K mg base "mend_cards" 4 ["card_file"] (spMend C) := ⟨⟨_, _, e_mend_cards, k_mend_cards, b_mend_cards, ok_mend F_mend_cards T g_read_places g_places g_mend_place g_have_all_cards⟩⟩
    have g_one_term_more : GOk P w K mg base "one_term_more" 3 ["card_file", "lit_sets"] (spMore C) := ⟨⟨_, _, e_one_term_more, k_one_term_more, b_one_term_more, ok_more F_one_term_more T g_terms g_still_shining⟩⟩
    have g_first_set_alone : GOk P w K mg base "first_set_alone" 4 ["card_file", "place"] (spFirst C) := ⟨⟨_, _, e_first_set_alone, k_first_set_alone, b_first_set_alone, ok_first F_first_set_alone T g_places g_one_term_more⟩⟩
    have g_terms_for_one_place : GOk P w K mg base "terms_for_one_place" 5 ["card_file", "place"] (spAlone C) := ⟨⟨_, _, e_terms_for_one_place, k_terms_for_one_place, b_terms_for_one_place, ok_alone F_terms_for_one_place T g_is_place g_lacks_a_term g_first_set_alone g_counted⟩⟩
    have g_count_concepts : GOk P w K mg base "count_concepts" 3 ["card_file"] (spCountC C) := ⟨⟨_, _, e_count_concepts, k_count_concepts, b_count_concepts, ok_countC F_count_concepts T hTu g_places g_terms g_still_shining⟩⟩
    have g_how_many_concepts : GOk P w K mg base "how_many_concepts" 4 ["card_file"] (spConcepts C) := ⟨⟨_, _, e_how_many_concepts, k_how_many_concepts, b_how_many_concepts, ok_concepts F_how_many_concepts T g_lacks_a_term g_count_concepts⟩⟩
    have g_answer_of_all_terms : GOk P w K mg base "answer_of_all_terms" 6 ["card_file", "name", "numbers", "row"] (spCallP K C tail3) := ⟨⟨_, _, e_answer_of_all_terms, k_answer_of_all_terms, b_answer_of_all_terms, ok_answer_of_all_terms F_answer_of_all_terms T g_terms_in_common g_terms_closed g_terms_for_one_place g_how_many_concepts g_places_with_one_term_more⟩⟩
    have g_answer_question : GOk P w K mg base "answer_question" 7 ["card_file", "name", "numbers", "row"] (spCallP K C tail2) := ⟨⟨_, _, e_answer_question, k_answer_question, b_answer_question, ok_answer_question F_answer_question T g_places_that_shine g_places_found g_holes_of_term g_item_card_at g_holes_of_card g_places_unread g_wrong_holes g_holes_unlike_item_cards g_holes_by_item_cards g_how_many_of_each g_answer_of_all_terms⟩⟩
    have g_answer_call : GOk P w K mg base "answer_call" 8 ["card_file", "name", "numbers", "row"] (spCall C) := ⟨⟨_, _, e_answer_call, k_answer_call, b_answer_call, ok_answer_call F_answer_call T g_set_up_file g_enter_item g_toggle_hole g_lose_card g_mend_cards g_clear_file g_answer_question⟩⟩
    exact ok_answers (kc := 8) (ki := 4) (by decide) (by decide) F_a T ⟨mkc, e___init__.at_, e___init__.fn, kc⟩ b___init__ g_init g_split_calls g_answer_call
end Hc
open PySem PySem.W PyProof.Rows
def PySem.W.Fast.tw6120576832489835589 : Unit := ()
def PySem.W.Fast.tw12547950259541286382 : Unit := ()
def PySem.W.Fast.tw2791196730862958031 : Unit := ()
def PySem.W.Fast.tw17028253231323915428 : Unit := ()
def PySem.W.Fast.tw8384062918713821311 : Unit := ()
def PySem.W.Fast.tw8446227042957761984 : Unit := ()
def PySem.W.Fast.tw9444391856840314918 : Unit := ()
def PySem.W.Fast.tw945444515799384098 : Unit := ()
def PySem.W.Fast.tw13296554090316775371 : Unit := ()
def PySem.W.Fast.tw14829362701021692714 : Unit := ()
def PySem.W.Fast.tw4440503498904836970 : Unit := ()
def PySem.W.Fast.tw14048594405997775496 : Unit := ()
def PySem.W.Fast.tw7180863583102311108 : Unit := ()
set_option maxRecDepth 100000 in
set_option maxHeartbeats 0 in
theorem PySem.Challenge.cw_holecards_s01_answers_holds : PySem.Challenge.rw_holecards_s01_answers.Holds := by
  w_on; k_headS; (case hw => exact ⟨[.list [.int 19]], by decide +kernel, by decide +kernel⟩)
  k_fillS
  refine L2.walk_specK (r := PySem.Challenge.rw_holecards_s01_answers) (k := 11) (CX := L2.CX0) (ps := ["calls"]) (sp := Hc.spAns) (by decide +kernel) rfl rfl ⟨rfl, by decide, by decide⟩ (fun w h Y => PySem.W.kIn_of Y) ?F ?S (fun _ _ _ _ z => z)
  case F =>
    intro w mg fa h Y KX G hmg
    refine' Hc.all_mk KX G hmg ?TX ?SX ?hT ?mkc ?kc ?r_card_of ?r_is_term ?r_is_place ?r_is_card ?r_is_lost ?r_lost_cards ?r_kept_cards ?r_has_hole ?r_terms ?r_places ?r_places_of ?r_cards_at ?r_turn_hole ?r_are_rising_below ?r_are_terms ?r_are_places ?r_cards_for ?r_take_out ?r_set_up ?r_begin ?r___init__ ?r_counted ?r_stands_oddly ?r_item_holes ?r_set_up_file ?r_toggle_hole ?r_lose_card ?r_enter_item ?r_holes_of_card ?r_holes_of_term ?r_item_card_at ?r_still_shining ?r_shining_places ?r_places_that_shine ?r_places_found ?r_mark_of ?r_fillings_by_mark ?r_ways_to_read ?r_read_places ?r_places_unread ?r_paired ?r_wrong_holes ?r_split_calls ?r_lacks_a_term ?r_item_has ?r_item_count ?r_have_all_cards ?r_how_many_of_each ?r_clear_file ?r_holes_by_item_cards ?r_holes_unlike_item_cards ?r_common_terms ?r_closed_terms ?r_terms_in_common ?r_terms_closed ?r_places_with_one_term_more ?r_mend_place ?r_mend_cards ?r_one_term_more ?r_first_set_alone ?r_terms_for_one_place ?r_count_concepts ?r_how_many_concepts ?r_answer_of_all_terms ?r_answer_question ?r_answer_call ?r_answers
    case TX =>
      refine' Hc.txt_mk KX G ?aC ?pg ?hd ?po ?sa ?na0 ?na1 ?na2 ?na3 ?na4 ?na5 ?aT ?lT ?aP ?lP ?nn0 ?nn1 ?nn2 ?nn3 ?nn4 ?nn5 ?ci0 ?ci1 ?ci2 ?ci3 ?ci4 ?ci5 ?ci6 ?ci7
      (case aC => k_is); (case pg => k_is); (case hd => k_is); (case po => k_is); (case sa => k_is); (case na0 => k_is); (case na1 => k_is); (case na2 => k_is); (case na3 => k_is); (case na4 => k_is); (case na5 => k_is); (case aT => k_is); (case lT => k_is); (case aP => k_is); (case lP => k_is); (case nn0 => k_is); (case nn1 => k_is); (case nn2 => k_is); (case nn3 => k_is); (case nn4 => k_is); (case nn5 => k_is); (case ci0 => k_is); (case ci1 => k_is); (case ci2 => k_is); (case ci3 => k_is); (case ci4 => k_is); (case ci5 => k_is); (case ci6 => k_is); (case ci7 => k_is)
    case SX =>
      refine' Hc.sh_mk ?g ?lS ?l0 ?l1 ?l2 ?l3 ?l4 ?l5 ?l6 ?l7 ?l8 ?l9 ?l10 ?l11 ?l12 ?l13 ?l14 ?l15 ?l16 ?l17 ?l18 ?l19 ?l20
      (case g => exact PySem.W.mg_of KX G (by k_is)); (case lS => k_is); (case l0 => k_is); (case l1 => k_is); (case l2 => k_is); (case l3 => k_is); (case l4 => k_is); (case l5 => k_is); (case l6 => k_is); (case l7 => k_is); (case l8 => k_is); (case l9 => k_is); (case l10 => k_is); (case l11 => k_is); (case l12 => k_is); (case l13 => k_is); (case l14 => k_is); (case l15 => k_is); (case l16 => k_is); (case l17 => k_is); (case l18 => k_is); (case l19 => k_is); (case l20 => k_is)
    (case hT => k_is); (case mkc => k_is); (case kc => k_is)
    (case r_card_of => refine' Hc.graw_mk ?a_card_of ?l_card_of ?c_card_of ?k_card_of; (case a_card_of => k_is); (case l_card_of => k_is); (case c_card_of => k_is); (case k_card_of => k_is))
    (case r_is_term => refine' Hc.mraw_mk ?a_is_term ?i_is_term ?l_is_term ?c_is_term ?k_is_term; (case a_is_term => k_is); (case i_is_term => k_is); (case l_is_term => k_is); (case c_is_term => k_is); (case k_is_term => k_is))
    (case r_is_place => refine' Hc.mraw_mk ?a_is_place ?i_is_place ?l_is_place ?c_is_place ?k_is_place; (case a_is_place => k_is); (case i_is_place => k_is); (case l_is_place => k_is); (case c_is_place => k_is); (case k_is_place => k_is))
    (case r_is_card => refine' Hc.mraw_mk ?a_is_card ?i_is_card ?l_is_card ?c_is_card ?k_is_card; (case a_is_card => k_is); (case i_is_card => k_is); (case l_is_card => k_is); (case c_is_card => k_is); (case k_is_card => k_is))
    (case r_is_lost => refine' Hc.mraw_mk ?a_is_lost ?i_is_lost ?l_is_lost ?c_is_lost ?k_is_lost; (case a_is_lost => k_is); (case i_is_lost => k_is); (case l_is_lost => k_is); (case c_is_lost => k_is); (case k_is_lost => k_is))
    (case r_lost_cards => refine' Hc.mraw_mk ?a_lost_cards ?i_lost_cards ?l_lost_cards ?c_lost_cards ?k_lost_cards; (case a_lost_cards => k_is); (case i_lost_cards => k_is); (case l_lost_cards => k_is); (case c_lost_cards => k_is); (case k_lost_cards => k_is))
    (case r_kept_cards => refine' Hc.mraw_mk ?a_kept_cards ?i_kept_cards ?l_kept_cards ?c_kept_cards ?k_kept_cards; (case a_kept_cards => k_is); (case i_kept_cards => k_is); (case l_kept_cards => k_is); (case c_kept_cards => k_is); (case k_kept_cards => k_is))
    (case r_has_hole => refine' Hc.mraw_mk ?a_has_hole ?i_has_hole ?l_has_hole ?c_has_hole ?k_has_hole; (case a_has_hole => k_is); (case i_has_hole => k_is); (case l_has_hole => k_is); (case c_has_hole => k_is); (case k_has_hole => k_is))
    (case r_terms => refine' Hc.mraw_mk ?a_terms ?i_terms ?l_terms ?c_terms ?k_terms; (case a_terms => k_is); (case i_terms => k_is); (case l_terms => k_is); (case c_terms => k_is); (case k_terms => k_is))
    (case r_places => refine' Hc.mraw_mk ?a_places ?i_places ?l_places ?c_places ?k_places; (case a_places => k_is); (case i_places => k_is); (case l_places => k_is); (case c_places => k_is); (case k_places => k_is))
    (case r_places_of => refine' Hc.mraw_mk ?a_places_of ?i_places_of ?l_places_of ?c_places_of ?k_places_of; (case a_places_of => k_is); (case i_places_of => k_is); (case l_places_of => k_is); (case c_places_of => k_is); (case k_places_of => k_is))
    (case r_cards_at => refine' Hc.mraw_mk ?a_cards_at ?i_cards_at ?l_cards_at ?c_cards_at ?k_cards_at; (case a_cards_at => k_is); (case i_cards_at => k_is); (case l_cards_at => k_is); (case c_cards_at => k_is); (case k_cards_at => k_is))
    (case r_turn_hole => refine' Hc.mraw_mk ?a_turn_hole ?i_turn_hole ?l_turn_hole ?c_turn_hole ?k_turn_hole; (case a_turn_hole => k_is); (case i_turn_hole => k_is); (case l_turn_hole => k_is); (case c_turn_hole => k_is); (case k_turn_hole => k_is))
    (case r_are_rising_below => refine' Hc.graw_mk ?a_are_rising_below ?l_are_rising_below ?c_are_rising_below ?k_are_rising_below; (case a_are_rising_below => k_is); (case l_are_rising_below => k_is); (case c_are_rising_below => k_is); (case k_are_rising_below => k_is))
    (case r_are_terms => refine' Hc.mraw_mk ?a_are_terms ?i_are_terms ?l_are_terms ?c_are_terms ?k_are_terms; (case a_are_terms => k_is); (case i_are_terms => k_is); (case l_are_terms => k_is); (case c_are_terms => k_is); (case k_are_terms => k_is))
    (case r_are_places => refine' Hc.mraw_mk ?a_are_places ?i_are_places ?l_are_places ?c_are_places ?k_are_places; (case a_are_places => k_is); (case i_are_places => k_is); (case l_are_places => k_is); (case c_are_places => k_is); (case k_are_places => k_is))
    (case r_cards_for => refine' Hc.graw_mk ?a_cards_for ?l_cards_for ?c_cards_for ?k_cards_for; (case a_cards_for => k_is); (case l_cards_for => k_is); (case c_cards_for => k_is); (case k_cards_for => k_is))
    (case r_take_out => refine' Hc.mraw_mk ?a_take_out ?i_take_out ?l_take_out ?c_take_out ?k_take_out; (case a_take_out => k_is); (case i_take_out => k_is); (case l_take_out => k_is); (case c_take_out => k_is); (case k_take_out => k_is))
    (case r_set_up => refine' Hc.mraw_mk ?a_set_up ?i_set_up ?l_set_up ?c_set_up ?k_set_up; (case a_set_up => k_is); (case i_set_up => k_is); (case l_set_up => k_is); (case c_set_up => k_is); (case k_set_up => k_is))
    (case r_begin => refine' Hc.mraw_mk ?a_begin ?i_begin ?l_begin ?c_begin ?k_begin; (case a_begin => k_is); (case i_begin => k_is); (case l_begin => k_is); (case c_begin => k_is); (case k_begin => k_is))
    (case r___init__ => refine' Hc.mraw_mk ?a___init__ ?i___init__ ?l___init__ ?c___init__ ?k___init__; (case a___init__ => k_is); (case i___init__ => k_is); (case l___init__ => k_is); (case c___init__ => k_is); (case k___init__ => k_is))
    (case r_counted => refine' Hc.graw_mk ?a_counted ?l_counted ?c_counted ?k_counted; (case a_counted => k_is); (case l_counted => k_is); (case c_counted => k_is); (case k_counted => k_is))
    (case r_stands_oddly => refine' Hc.graw_mk ?a_stands_oddly ?l_stands_oddly ?c_stands_oddly ?k_stands_oddly; (case a_stands_oddly => k_is); (case l_stands_oddly => k_is); (case c_stands_oddly => k_is); (case k_stands_oddly => k_is))
    (case r_item_holes => refine' Hc.graw_mk ?a_item_holes ?l_item_holes ?c_item_holes ?k_item_holes; (case a_item_holes => k_is); (case l_item_holes => k_is); (case c_item_holes => k_is); (case k_item_holes => k_is))
    (case r_set_up_file => refine' Hc.graw_mk ?a_set_up_file ?l_set_up_file ?c_set_up_file ?k_set_up_file; (case a_set_up_file => k_is); (case l_set_up_file => k_is); (case c_set_up_file => k_is); (case k_set_up_file => k_is))
    (case r_toggle_hole => refine' Hc.graw_mk ?a_toggle_hole ?l_toggle_hole ?c_toggle_hole ?k_toggle_hole; (case a_toggle_hole => k_is); (case l_toggle_hole => k_is); (case c_toggle_hole => k_is); (case k_toggle_hole => k_is))
    (case r_lose_card => refine' Hc.graw_mk ?a_lose_card ?l_lose_card ?c_lose_card ?k_lose_card; (case a_lose_card => k_is); (case l_lose_card => k_is); (case c_lose_card => k_is); (case k_lose_card => k_is))
    (case r_enter_item => refine' Hc.graw_mk ?a_enter_item ?l_enter_item ?c_enter_item ?k_enter_item; (case a_enter_item => k_is); (case l_enter_item => k_is); (case c_enter_item => k_is); (case k_enter_item => k_is))
    (case r_holes_of_card => refine' Hc.graw_mk ?a_holes_of_card ?l_holes_of_card ?c_holes_of_card ?k_holes_of_card; (case a_holes_of_card => k_is); (case l_holes_of_card => k_is); (case c_holes_of_card => k_is); (case k_holes_of_card => k_is))
    (case r_holes_of_term => refine' Hc.graw_mk ?a_holes_of_term ?l_holes_of_term ?c_holes_of_term ?k_holes_of_term; (case a_holes_of_term => k_is); (case l_holes_of_term => k_is); (case c_holes_of_term => k_is); (case k_holes_of_term => k_is))
    (case r_item_card_at => refine' Hc.graw_mk ?a_item_card_at ?l_item_card_at ?c_item_card_at ?k_item_card_at; (case a_item_card_at => k_is); (case l_item_card_at => k_is); (case c_item_card_at => k_is); (case k_item_card_at => k_is))
    (case r_still_shining => refine' Hc.graw_mk ?a_still_shining ?l_still_shining ?c_still_shining ?k_still_shining; (case a_still_shining => k_is); (case l_still_shining => k_is); (case c_still_shining => k_is); (case k_still_shining => k_is))
    (case r_shining_places => refine' Hc.graw_mk ?a_shining_places ?l_shining_places ?c_shining_places ?k_shining_places; (case a_shining_places => k_is); (case l_shining_places => k_is); (case c_shining_places => k_is); (case k_shining_places => k_is))
    (case r_places_that_shine => refine' Hc.graw_mk ?a_places_that_shine ?l_places_that_shine ?c_places_that_shine ?k_places_that_shine; (case a_places_that_shine => k_is); (case l_places_that_shine => k_is); (case c_places_that_shine => k_is); (case k_places_that_shine => k_is))
    (case r_places_found => refine' Hc.graw_mk ?a_places_found ?l_places_found ?c_places_found ?k_places_found; (case a_places_found => k_is); (case l_places_found => k_is); (case c_places_found => k_is); (case k_places_found => k_is))
    (case r_mark_of => refine' Hc.graw_mk ?a_mark_of ?l_mark_of ?c_mark_of ?k_mark_of; (case a_mark_of => k_is); (case l_mark_of => k_is); (case c_mark_of => k_is); (case k_mark_of => k_is))
    (case r_fillings_by_mark => refine' Hc.graw_mk ?a_fillings_by_mark ?l_fillings_by_mark ?c_fillings_by_mark ?k_fillings_by_mark; (case a_fillings_by_mark => k_is); (case l_fillings_by_mark => k_is); (case c_fillings_by_mark => k_is); (case k_fillings_by_mark => k_is))
    (case r_ways_to_read => refine' Hc.graw_mk ?a_ways_to_read ?l_ways_to_read ?c_ways_to_read ?k_ways_to_read; (case a_ways_to_read => k_is); (case l_ways_to_read => k_is); (case c_ways_to_read => k_is); (case k_ways_to_read => k_is))
    (case r_read_places => refine' Hc.graw_mk ?a_read_places ?l_read_places ?c_read_places ?k_read_places; (case a_read_places => k_is); (case l_read_places => k_is); (case c_read_places => k_is); (case k_read_places => k_is))
    (case r_places_unread => refine' Hc.graw_mk ?a_places_unread ?l_places_unread ?c_places_unread ?k_places_unread; (case a_places_unread => k_is); (case l_places_unread => k_is); (case c_places_unread => k_is); (case k_places_unread => k_is))
    (case r_paired => refine' Hc.graw_mk ?a_paired ?l_paired ?c_paired ?k_paired; (case a_paired => k_is); (case l_paired => k_is); (case c_paired => k_is); (case k_paired => k_is))
    (case r_wrong_holes => refine' Hc.graw_mk ?a_wrong_holes ?l_wrong_holes ?c_wrong_holes ?k_wrong_holes; (case a_wrong_holes => k_is); (case l_wrong_holes => k_is); (case c_wrong_holes => k_is); (case k_wrong_holes => k_is))
    (case r_split_calls => refine' Hc.graw_mk ?a_split_calls ?l_split_calls ?c_split_calls ?k_split_calls; (case a_split_calls => k_is); (case l_split_calls => k_is); (case c_split_calls => k_is); (case k_split_calls => k_is))
    (case r_lacks_a_term => refine' Hc.mraw_mk ?a_lacks_a_term ?i_lacks_a_term ?l_lacks_a_term ?c_lacks_a_term ?k_lacks_a_term; (case a_lacks_a_term => k_is); (case i_lacks_a_term => k_is); (case l_lacks_a_term => k_is); (case c_lacks_a_term => k_is); (case k_lacks_a_term => k_is))
    (case r_item_has => refine' Hc.mraw_mk ?a_item_has ?i_item_has ?l_item_has ?c_item_has ?k_item_has; (case a_item_has => k_is); (case i_item_has => k_is); (case l_item_has => k_is); (case c_item_has => k_is); (case k_item_has => k_is))
    (case r_item_count => refine' Hc.mraw_mk ?a_item_count ?i_item_count ?l_item_count ?c_item_count ?k_item_count; (case a_item_count => k_is); (case i_item_count => k_is); (case l_item_count => k_is); (case c_item_count => k_is); (case k_item_count => k_is))
    (case r_have_all_cards => refine' Hc.mraw_mk ?a_have_all_cards ?i_have_all_cards ?l_have_all_cards ?c_have_all_cards ?k_have_all_cards; (case a_have_all_cards => k_is); (case i_have_all_cards => k_is); (case l_have_all_cards => k_is); (case c_have_all_cards => k_is); (case k_have_all_cards => k_is))
    (case r_how_many_of_each => refine' Hc.graw_mk ?a_how_many_of_each ?l_how_many_of_each ?c_how_many_of_each ?k_how_many_of_each; (case a_how_many_of_each => k_is); (case l_how_many_of_each => k_is); (case c_how_many_of_each => k_is); (case k_how_many_of_each => k_is))
    (case r_clear_file => refine' Hc.graw_mk ?a_clear_file ?l_clear_file ?c_clear_file ?k_clear_file; (case a_clear_file => k_is); (case l_clear_file => k_is); (case c_clear_file => k_is); (case k_clear_file => k_is))
    (case r_holes_by_item_cards => refine' Hc.graw_mk ?a_holes_by_item_cards ?l_holes_by_item_cards ?c_holes_by_item_cards ?k_holes_by_item_cards; (case a_holes_by_item_cards => k_is); (case l_holes_by_item_cards => k_is); (case c_holes_by_item_cards => k_is); (case k_holes_by_item_cards => k_is))
    (case r_holes_unlike_item_cards => refine' Hc.graw_mk ?a_holes_unlike_item_cards ?l_holes_unlike_item_cards ?c_holes_unlike_item_cards ?k_holes_unlike_item_cards; (case a_holes_unlike_item_cards => k_is); (case l_holes_unlike_item_cards => k_is); (case c_holes_unlike_item_cards => k_is); (case k_holes_unlike_item_cards => k_is))
    (case r_common_terms => refine' Hc.graw_mk ?a_common_terms ?l_common_terms ?c_common_terms ?k_common_terms; (case a_common_terms => k_is); (case l_common_terms => k_is); (case c_common_terms => k_is); (case k_common_terms => k_is))
    (case r_closed_terms => refine' Hc.graw_mk ?a_closed_terms ?l_closed_terms ?c_closed_terms ?k_closed_terms; (case a_closed_terms => k_is); (case l_closed_terms => k_is); (case c_closed_terms => k_is); (case k_closed_terms => k_is))
    (case r_terms_in_common => refine' Hc.graw_mk ?a_terms_in_common ?l_terms_in_common ?c_terms_in_common ?k_terms_in_common; (case a_terms_in_common => k_is); (case l_terms_in_common => k_is); (case c_terms_in_common => k_is); (case k_terms_in_common => k_is))
    (case r_terms_closed => refine' Hc.graw_mk ?a_terms_closed ?l_terms_closed ?c_terms_closed ?k_terms_closed; (case a_terms_closed => k_is); (case l_terms_closed => k_is); (case c_terms_closed => k_is); (case k_terms_closed => k_is))
    (case r_places_with_one_term_more => refine' Hc.graw_mk ?a_places_with_one_term_more ?l_places_with_one_term_more ?c_places_with_one_term_more ?k_places_with_one_term_more; (case a_places_with_one_term_more => k_is); (case l_places_with_one_term_more => k_is); (case c_places_with_one_term_more => k_is); (case k_places_with_one_term_more => k_is))
    (case r_mend_place => refine' Hc.graw_mk ?a_mend_place ?l_mend_place ?c_mend_place ?k_mend_place; (case a_mend_place => k_is); (case l_mend_place => k_is); (case c_mend_place => k_is); (case k_mend_place => k_is))
    (case r_mend_cards => refine' Hc.graw_mk ?a_mend_cards ?l_mend_cards ?c_mend_cards ?k_mend_cards; (case a_mend_cards => k_is); (case l_mend_cards => k_is); (case c_mend_cards => k_is); (case k_mend_cards => k_is))
    (case r_one_term_more => refine' Hc.graw_mk ?a_one_term_more ?l_one_term_more ?c_one_term_more ?k_one_term_more; (case a_one_term_more => k_is); (case l_one_term_more => k_is); (case c_one_term_more => k_is); (case k_one_term_more => k_is))
    (case r_first_set_alone => refine' Hc.graw_mk ?a_first_set_alone ?l_first_set_alone ?c_first_set_alone ?k_first_set_alone; (case a_first_set_alone => k_is); (case l_first_set_alone => k_is); (case c_first_set_alone => k_is); (case k_first_set_alone => k_is))
    (case r_terms_for_one_place => refine' Hc.graw_mk ?a_terms_for_one_place ?l_terms_for_one_place ?c_terms_for_one_place ?k_terms_for_one_place; (case a_terms_for_one_place => k_is); (case l_terms_for_one_place => k_is); (case c_terms_for_one_place => k_is); (case k_terms_for_one_place => k_is))
    (case r_count_concepts => refine' Hc.graw_mk ?a_count_concepts ?l_count_concepts ?c_count_concepts ?k_count_concepts; (case a_count_concepts => k_is); (case l_count_concepts => k_is); (case c_count_concepts => k_is); (case k_count_concepts => k_is))
    (case r_how_many_concepts => refine' Hc.graw_mk ?a_how_many_concepts ?l_how_many_concepts ?c_how_many_concepts ?k_how_many_concepts; (case a_how_many_concepts => k_is); (case l_how_many_concepts => k_is); (case c_how_many_concepts => k_is); (case k_how_many_concepts => k_is))
    (case r_answer_of_all_terms => refine' Hc.graw_mk ?a_answer_of_all_terms ?l_answer_of_all_terms ?c_answer_of_all_terms ?k_answer_of_all_terms; (case a_answer_of_all_terms => k_is); (case l_answer_of_all_terms => k_is); (case c_answer_of_all_terms => k_is); (case k_answer_of_all_terms => k_is))
    (case r_answer_question => refine' Hc.graw_mk ?a_answer_question ?l_answer_question ?c_answer_question ?k_answer_question; (case a_answer_question => k_is); (case l_answer_question => k_is); (case c_answer_question => k_is); (case k_answer_question => k_is))
    (case r_answer_call => refine' Hc.graw_mk ?a_answer_call ?l_answer_call ?c_answer_call ?k_answer_call; (case a_answer_call => k_is); (case l_answer_call => k_is); (case c_answer_call => k_is); (case k_answer_call => k_is))
    (case r_answers => refine' Hc.graw_mk ?a_answers ?l_answers ?c_answers ?k_answers; (case a_answers => k_is); (case l_answers => k_is); (case c_answers => k_is); (case k_answers => k_is))
  case S =>
    intro K H xs a hO hwi hask hx
    cases hx with
    | cons h1 h2 =>
      cases h2
      cases h1 with
      | lst hs ha =>
        have e := L2.ints_dw a.1 _ ha
        subst e
        have q : ((Codec.inLen 0 16000 a.1 && a.1.all (Codec.inInt (_root_.Int.negSucc 9223372036854775807) (_root_.Int.ofNat 9223372036854775807))) && true) = true := hwi
        rw [Bool.and_eq_true, Bool.and_eq_true] at q
        exact ⟨_, a.1, rfl, hs, (Codec.inNat_iff.mp q.1.1).2, hask, fun H' p hp => .lst (L2.SqL.of hp) (L2.dw_ints _)⟩
