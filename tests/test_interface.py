import contextlib
import inspect
import io
import subprocess
import sys
import unittest

from holecards.files import answers
from tests.line import GREATEST, LEAST, apart, flat, told

LINE = flat([
    ("file", 11, 40), ("item", 0, [0, 3, 10]), ("item", 39, []), ("toggle", 0, 5), ("toggle", 15, 6),
    ("light", [0, 3]), ("found", []), ("term", 10), ("itemcard", 0), ("check", 0), ("lose", 8), ("lose", 8),
    ("unread",), ("wrong",), ("item", 1, [LEAST, GREATEST]), ("file", GREATEST, LEAST), ("itemcard", 39),
    ("unlike",), ("anew", 3), ("common", [0, 5]), ("closed", [0]), ("alone", 0), ("concepts",), ("further", [10]),
    ("counts",), ("lose", 3), ("common", []), ("common", [GREATEST, LEAST]), ("mend",), ("alone", 40), ("clear",),
    ("counts",), ("alone", 0), ("item", 0, [0]), ("lose", 0)])


class Unchangeable(list):
    """A list that fails at once when something is stored in it, even for a while."""

    def refuse(self, *_, **__):
        raise AssertionError("the list handed in is changed")

    __setitem__ = __delitem__ = __iadd__ = __imul__ = refuse
    append = extend = insert = pop = remove = clear = sort = reverse = refuse


class Interface(unittest.TestCase):
    def test_each_answer_has_its_count_ahead(self):
        self.assertEqual(answers([0, 2, 3]), [1, 0])
        self.assertEqual(answers([1, 0, 1, 0]), [5, 4, 0, 1, 2, 3])
        self.assertEqual(answers([1, 0, 0]), [1, 0])
        self.assertEqual(answers([2, 0]), [2, 1, 0])
        self.assertEqual(answers([3, 0]), [1, 0])
        self.assertEqual(answers([4, 0]), [1, 0])
        self.assertEqual(answers([5, 0]), [1, 0])
        self.assertEqual(answers([1, 0, 1, 0, 5, 0]), [5, 4, 0, 1, 2, 3, 3, 1, 1, 0])
        self.assertEqual(answers([6, 8]), [1, 0])
        self.assertEqual(answers([7, 3, 0]), [1, 1])
        self.assertEqual(answers([8, 3]), [1, 1])
        self.assertEqual(answers([9]), [1, 0])
        self.assertEqual(answers([7, 3, 0, 10]), [1, 1, 3, 1, 3, 0])
        self.assertEqual(answers([4, -1]), [1, -1])
        self.assertEqual(answers([7, 3, 0, 11]), [1, 1, 2, 0, 1])
        self.assertEqual(answers([12]), [1, 0])
        self.assertEqual(answers([7, 3, 0, 12]), [1, 1, 3, 1, 0, 0])
        self.assertEqual(answers([13, 0]), [1, 0])
        self.assertEqual(answers([14, 0]), [2, 1, 0])
        self.assertEqual(answers([14, 1, 0]), [1, 0])
        self.assertEqual(answers([15, 0]), [1, 0])
        self.assertEqual(answers([15, 1, 0]), [2, 1, 0])
        self.assertEqual(answers([16, 0]), [2, 1, 0])
        self.assertEqual(answers([0, 1, 2, 16, 0]), [1, 0, 1, 0])
        self.assertEqual(answers([17]), [1, 2])
        self.assertEqual(answers([18, 1, 0]), [2, 1, 0])
        self.assertEqual(answers([19]), [4, 1, 1, 0, 0])
        self.assertEqual(answers([20]), [1, 0])
        self.assertEqual(answers([8, 3, 17]), [1, 1, 1, -5])

    def test_calls_lie_one_behind_another(self):
        # The numbers within a row look like calls of their own.
        self.assertEqual(answers([2, 3, 9, 9, 10, 9, 3, 1, 10, 10]), [1, -1, 1, 0, 1, -1, 1, 0])
        self.assertEqual(answers([1, 9, 2, 0, 0, 7, 10, 9, 10]), [1, -1, 1, -1, 1, 0])
        self.assertEqual(answers([14, 2, 20, 20, 15, 1, 19, 18, 3, 11, 11, 11, 20]), [1, -1, 1, -1, 1, -1, 1, 0])
        self.assertEqual(answers([13, 20, 16, 19, 17, 11, 12]), [1, -1, 1, -1, 1, 2, 2, 0, 0, 1, 0])

    def test_every_answer_is_of_plain_whole_numbers(self):
        given = answers(LINE)
        self.assertIs(type(given), list)
        self.assertEqual({type(number) for number in given}, {int})

    def test_the_list_handed_in_is_as_it_was(self):
        handed = list(LINE)
        answers(handed)
        self.assertEqual(handed, LINE)

    def test_the_list_handed_in_is_not_changed_for_a_while(self):
        self.assertEqual(answers(Unchangeable(LINE)), answers(LINE))

    def test_two_runs_give_the_same(self):
        first = answers(LINE)
        kept = list(first)
        first.clear()
        self.assertEqual(answers(LINE), kept)

    def test_nothing_is_kept_from_one_line_to_the_next(self):
        fresh = [("counts",), ("itemcard", 1), ("check", 5), ("itemcard", 0), ("check", 3), ("lose", 0), ("light", [])]
        expected = [[1, 1, 0, 0], [-1], [-1], [0], [0], [1], [1, 0]]
        self.assertEqual(told(*fresh), expected)
        answers(LINE)
        self.assertEqual(told(*fresh), expected)

    def test_nothing_is_printed(self):
        out, err = io.StringIO(), io.StringIO()
        with contextlib.redirect_stdout(out), contextlib.redirect_stderr(err):
            answers(LINE)
        self.assertEqual((out.getvalue(), err.getvalue()), ("", ""))

    def test_nothing_but_the_package_is_imported(self):
        code = (
            "import sys; before = set(sys.modules); from holecards.files import answers; answers([9]);"
            "print([m for m in set(sys.modules) - before if m.split('.')[0] != 'holecards'])")
        done = subprocess.run([sys.executable, "-c", code], capture_output=True, text=True, check=True)
        self.assertEqual(done.stdout, "[]\n")

    def test_a_long_line_needs_no_deep_calls(self):
        rising = list(range(11))
        calls = [("file", 11, 40)] + [("light", rising + [11] * 27)] * 398 + [("light", [])]
        numbers = flat(calls)
        self.assertLessEqual(len(numbers), 16000)
        limit = sys.getrecursionlimit()
        sys.setrecursionlimit(len(inspect.stack()) + 60)
        try:
            given = answers(numbers)
        finally:
            sys.setrecursionlimit(limit)
        self.assertEqual(apart(given), [[0]] + [[-1]] * 398 + [[40] + list(range(40))])

    def test_a_row_may_have_forty_numbers(self):
        self.assertEqual(told(("light", [0] * 40), ("light", [0])), [[-1], [0]])
        self.assertEqual(told(("item", 0, list(range(40))), ("itemcard", 0)), [[-1], [0]])
        self.assertEqual(told(("file", 1, 40), ("common", list(range(40))), ("closed", [0] * 40), ("further", [0] * 40)),
                         [[0], [0], [-1], [-1]])
        self.assertEqual(told(("common", list(range(40))), ("counts",)), [[-1], [1, 1, 0, 0]])

    def test_the_longest_answer(self):
        calls = [("file", 11, 40)] + [("item", place, list(range(11))) for place in range(40)]
        # Four such cards stand for one another, so that no place can be read and they come back without holes.
        for lost in ((0, 3, 5, 6), (0, 7, 9, 14), (0, 10, 12, 6), (0, 11, 13, 6), (0, 15, 3, 12)):
            calls += [("lose", card) for card in lost] + [("mend",)]
        pairs = [number for term in range(11) for place in range(40) for number in (term, place)]
        self.assertEqual(told(*calls, ("unlike",))[-2:], [[40, 0], [440] + pairs])
