"""Lines of all calls in any order, held against a plain telling of the document's words."""

import itertools
import random
import unittest

from holecards.files import answers
from tests.line import GREATEST, LEAST, NAMES, TERM_CARDS, apart, cards_of, flat, ways_by_the_words

RARE = ("alone", "concepts")


class Refusal(Exception):
    pass


def need(holds, number):
    if not holds:
        raise Refusal(number)


def as_list(numbers):
    return [len(numbers)] + sorted(numbers)


def as_pairs(pairs):
    return [len(pairs)] + [number for pair in pairs for number in pair]


class Words:
    """The document's words, each call as its row tells it, over sets of (card, place)."""

    def __init__(self):
        self.file(1, 1)

    def answer(self, call):
        try:
            return getattr(self, call[0])(*call[1:])
        except Refusal as refusal:
            return [refusal.args[0]]

    # What the rows need.

    def need_list(self, numbers, limit):
        need(list(numbers) == sorted(set(numbers) & set(range(limit))), -1)

    def need_all(self):
        need(not set(TERM_CARDS[:self.T]) & self.lost, -5)

    def shine(self, terms):
        return [p for p in range(self.P) if all((TERM_CARDS[t], p) in self.holes for t in terms)]

    def common_to(self, places):
        return [t for t in range(self.T) if all((TERM_CARDS[t], p) in self.holes for p in places)]

    def sets(self):
        return itertools.chain(*[itertools.combinations(range(self.T), size) for size in range(self.T + 1)])

    def readings(self):
        for p in range(self.P):
            seen = tuple(card for card in cards_of(self.T) if (card, p) in self.holes)
            ways = ways_by_the_words(tuple(cards_of(self.T)), tuple(sorted(self.lost)), seen)
            yield p, ways[0] if len(ways) == 1 else None

    # The rows.

    def file(self, T, P):
        need(1 <= T <= 11 and 1 <= P <= 40, -1)
        self.T, self.P = T, P
        self.told, self.holes, self.lost = {}, set(), set()
        return [0]

    def item(self, p, terms):
        need(p in range(self.P), -1)
        self.need_list(terms, self.T)
        need(p not in self.told, -4)
        need(not self.lost, -5)
        self.told[p] = list(terms)
        cards = [TERM_CARDS[t] for t in terms]
        cards += [part for part in (1, 2, 4, 8) if sum(card // part % 2 for card in cards) % 2]
        cards += [0] * (len(cards) % 2)
        self.holes ^= {(card, p) for card in cards}
        return as_list(cards)

    def light(self, terms):
        self.need_list(terms, self.T)
        need(not {TERM_CARDS[t] for t in terms} & self.lost, -5)
        return as_list(self.shine(terms))

    def found(self, terms):
        self.need_list(terms, self.T)
        return as_list([p for p in self.told if set(terms) <= set(self.told[p])])

    def term(self, t):
        need(t in range(self.T), -1)
        return self.check(TERM_CARDS[t])

    def itemcard(self, p):
        need(p in range(self.P), -1)
        return [1] + as_list(self.told[p]) if p in self.told else [0]

    def check(self, c):
        need(c in cards_of(self.T), -1)
        need(c not in self.lost, -5)
        return as_list([p for card, p in self.holes if card == c])

    def toggle(self, c, p):
        need(c in cards_of(self.T) and p in range(self.P), -1)
        need(c not in self.lost, -5)
        self.holes ^= {(c, p)}
        return [int((c, p) in self.holes)]

    def lose(self, c):
        need(c in cards_of(self.T), -1)
        need(c not in self.lost, -5)
        need(len(self.lost) < 4, -3)
        self.lost.add(c)
        self.holes = {(card, p) for card, p in self.holes if card != c}
        return [len(self.lost)]

    def unread(self):
        return as_list([p for p, way in self.readings() if way is None])

    def wrong(self):
        return as_pairs([(way[0], p) for p, way in self.readings() if way is not None and way[0] is not None])

    def mend(self):
        read = [(p, way) for p, way in self.readings() if way is not None]
        wrong = {(way[0], p) for p, way in read if way[0] is not None}
        self.holes = (self.holes ^ wrong) | {(card, p) for p, way in read for card in way[1]}
        self.lost = set()
        return [self.P - len(read), len(wrong)]

    def unlike(self):
        told = {(t, p) for p in self.told for t in self.told[p]}
        pairs = [(t, p) for t in range(self.T) for p in range(self.P) if TERM_CARDS[t] not in self.lost]
        return as_pairs([(t, p) for t, p in pairs if ((t, p) in told) != ((TERM_CARDS[t], p) in self.holes)])

    def anew(self, t):
        need(t in range(self.T), -1)
        return as_list([p for p in self.told if t in self.told[p]])

    def common(self, places):
        self.need_list(places, self.P)
        self.need_all()
        return as_list(self.common_to(places))

    def closed(self, terms):
        self.need_list(terms, self.T)
        self.need_all()
        return as_list(self.common_to(self.shine(terms)))

    def alone(self, p):
        need(p in range(self.P), -1)
        self.need_all()
        for terms in self.sets():
            if self.shine(terms) == [p]:
                return [1] + as_list(terms)
        return [0]

    def concepts(self):
        self.need_all()
        return [sum(self.common_to(self.shine(terms)) == list(terms) for terms in self.sets())]

    def further(self, terms):
        self.need_list(terms, self.T)
        self.need_all()
        return [self.T] + [len(self.shine(set(terms) | {t})) for t in range(self.T)]

    def counts(self):
        return [self.T, self.P, len(self.told), len(self.lost)]

    def clear(self):
        return self.file(1, 1)


class Writer:
    """Writes lines with most numbers as told and some not."""

    def __init__(self, seed, term_counts, place_counts):
        self.chance = random.Random(seed)
        self.term_counts, self.place_counts = term_counts, place_counts

    def number(self, limit):
        if self.chance.random() < 0.04:
            return self.chance.choice([-1, limit, limit + 1, 12, 41, LEAST, GREATEST])
        return self.chance.randrange(limit)

    def row(self, limit):
        kept = self.chance.choice([0.1, 0.3, 0.5, 1])
        row = [number for number in range(limit) if self.chance.random() < kept]
        if self.chance.random() < 0.05:
            row.insert(self.chance.randint(0, len(row)), self.number(limit))
        return row[:40]

    def card(self, T):
        return self.chance.choice(cards_of(T)) if self.chance.random() < 0.95 else self.number(16)

    def call(self, name, words):
        T, P = words.T, words.P
        if name == "file":
            return name, self.number(14), self.number(43)
        if name == "item":
            return name, self.number(P), self.row(T)
        if name in ("light", "found", "closed", "further"):
            return name, self.row(T)
        if name == "common":
            return name, self.row(P)
        if name in ("term", "anew"):
            return name, self.number(T)
        if name in ("itemcard", "alone"):
            return name, self.number(P)
        if name in ("check", "lose"):
            return name, self.card(T)
        if name == "toggle":
            return name, self.card(T), self.number(P)
        return (name,)

    def new_file(self):
        """A file with items at some of its places, so that there is something to ask for."""
        calls = [("file", self.chance.choice(self.term_counts), self.chance.choice(self.place_counts))]
        for place in range(calls[0][2]):
            if self.chance.random() < 0.7:
                calls.append(("item", place, self.row(calls[0][1])))
        return calls

    def next_calls(self, words):
        part = self.chance.random()
        if part < 0.1:
            return [self.call(self.chance.choice(["lose", "lose", "mend"]), words)]
        if part < 0.12:
            return [("clear",), self.call("file", words)] + self.new_file()
        if part < 0.13:
            return [("clear",)]
        often = [name for name in NAMES if name not in RARE + ("file", "clear", "lose", "mend")]
        return [self.call(self.chance.choice(often + ["toggle"] * 2), words)]

    def line(self, length):
        """A line's calls and what the words answer to them."""
        words = Words()
        calls, given, waiting = [], [], self.new_file()
        rare_ones = self.chance.sample(range(length // 3, length), 6)
        for at in range(length):
            if at in rare_ones:
                waiting.insert(0, self.call(self.chance.choice(RARE), words))
            elif not waiting:
                waiting = self.next_calls(words)
            calls.append(waiting.pop(0))
            given.append(words.answer(calls[-1]))
        return calls, given


class AnyOrder(unittest.TestCase):
    def compare(self, seeds, length, term_counts, place_counts):
        for seed in seeds:
            calls, expected = Writer(seed, term_counts, place_counts).line(length)
            self.assertEqual(len(calls), length)
            self.assertLessEqual(sum(call[0] in RARE for call in calls), 6)
            numbers = flat(calls)
            handed = list(numbers)
            given = answers(handed)
            self.assertEqual(handed, numbers)
            self.assertEqual(answers(handed), given)
            for at, (call, right, answer) in enumerate(zip(calls, expected, apart(given))):
                self.assertEqual(answer, right, (seed, at, call, calls[:at]))

    def test_short_lines(self):
        self.compare(range(400), 20, [1, 2, 3, 4], [1, 2, 3, 5])

    def test_long_lines_on_small_files(self):
        self.compare(range(1000, 1030), 400, [1, 2, 3, 4, 5], [1, 2, 3, 4, 7])

    def test_long_lines_on_files_of_any_size(self):
        self.compare(range(2000, 2015), 400, list(range(1, 10)), list(range(1, 41)))

    def test_long_lines_on_the_largest_file(self):
        self.compare(range(3000, 3004), 300, [11], [40])

    def test_alone_and_concepts_on_files_of_many_terms_an_item(self):
        sizes = [(5, 6), (6, 9), (7, 12), (4, 5)] * 40 + [(11, 40)] * 2
        for seed, (term_count, place_count) in enumerate(sizes):
            chance = random.Random(seed)
            kept = chance.choice([0.5, 0.65, 0.8, 0.9])
            calls = [("file", term_count, place_count)]
            for place in range(place_count):
                calls.append(("item", place, [t for t in range(term_count) if chance.random() < kept]))
            calls += [("alone", place) for place in chance.sample(range(place_count), 4)] + [("concepts",)]
            words = Words()
            self.assertEqual(apart(answers(flat(calls))), [words.answer(call) for call in calls], calls)

    def test_every_call_may_come_first(self):
        rows = {"item": (0, [0]), "light": ([0],), "found": ([],), "common": ([0],), "closed": ([0],), "further": ([],)}
        numbers = {"file": (2, 3), "term": (0,), "itemcard": (0,), "check": (3,), "toggle": (3, 0), "lose": (3,),
                   "anew": (0,), "alone": (0,)}
        for name in NAMES:
            call = (name,) + rows.get(name, ()) + numbers.get(name, ())
            self.assertEqual(apart(answers(flat([call]))), [Words().answer(call)], call)

    def test_every_call_behind_every_other(self):
        before = [
            ("file", 3, 2), ("item", 0, [0, 1]), ("item", 1, [2]), ("light", [0]), ("found", [1]), ("term", 2),
            ("itemcard", 1), ("check", 0), ("toggle", 6, 1), ("lose", 5), ("unread",), ("wrong",), ("mend",), ("unlike",),
            ("anew", 1), ("common", [0, 1]), ("closed", [1]), ("alone", 1), ("concepts",), ("further", [0]), ("counts",),
            ("clear",)]
        start = [("file", 3, 2), ("toggle", 3, 1), ("item", 0, [1, 2])]
        for first, second in itertools.product(before, before):
            words = Words()
            calls = start + [first, second]
            expected = [words.answer(call) for call in calls]
            self.assertEqual(apart(answers(flat(calls))), expected, (first, second))
