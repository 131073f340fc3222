import unittest

from holecards.files import answers
from tests.line import told

EXAMPLE = [
    (("file", 3, 2), [0]),
    (("item", 0, [0, 1]), [4, 2, 3, 4, 5]),
    (("item", 1, [1, 2]), [4, 1, 2, 5, 6]),
    (("light", [1]), [2, 0, 1]),
    (("closed", [0]), [2, 0, 1]),
    (("alone", 1), [1, 1, 2]),
    (("concepts",), [4]),
    (("further", []), [3, 1, 2, 1]),
    (("toggle", 3, 1), [1]),
    (("wrong",), [1, 3, 1]),
    (("light", [0]), [2, 0, 1]),
    (("found", [0]), [1, 0]),
    (("unlike",), [1, 0, 1]),
    (("lose", 8), [1]),
    (("unread",), [0]),
    (("mend",), [0, 1]),
    (("light", [0]), [1, 0]),
    (("unlike",), [0]),
]


class Example(unittest.TestCase):
    def test_the_documents_example(self):
        self.assertEqual(told(*[call for call, _ in EXAMPLE]), [answer for _, answer in EXAMPLE])

    def test_the_example_number_by_number(self):
        calls = [
            0, 3, 2, 1, 0, 2, 0, 1, 1, 1, 2, 1, 2, 2, 1, 1, 15, 1, 0, 16, 1, 17, 18, 0,
            7, 3, 1, 10, 2, 1, 0, 3, 1, 0, 12, 8, 8, 9, 11, 2, 1, 0, 12]
        self.assertEqual(answers(calls), [
            1, 0, 5, 4, 2, 3, 4, 5, 5, 4, 1, 2, 5, 6, 3, 2, 0, 1, 3, 2, 0, 1, 3, 1, 1, 2, 1, 4, 4, 3, 1, 2, 1,
            1, 1, 3, 1, 3, 1, 3, 2, 0, 1, 2, 1, 0, 3, 1, 0, 1, 1, 1, 1, 0, 2, 0, 1, 2, 1, 0, 1, 0])
