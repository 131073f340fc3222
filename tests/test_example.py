import unittest

from holecards.files import answers
from tests.line import told


class Example(unittest.TestCase):
    def test_the_documents_example_as_far_as_it_uses_these_calls(self):
        line = [
            (("file", 3, 2), [0]),
            (("item", 0, [0, 1]), [4, 2, 3, 4, 5]),
            (("item", 1, [1, 2]), [4, 1, 2, 5, 6]),
            (("light", [1]), [2, 0, 1]),
            (("toggle", 3, 1), [1]),
            (("wrong",), [1, 3, 1]),
            (("light", [0]), [2, 0, 1]),
            (("found", [0]), [1, 0]),
            (("lose", 8), [1]),
            (("unread",), [0]),
        ]
        self.assertEqual(told(*[call for call, _ in line]), [answer for _, answer in line])

    def test_the_example_number_by_number(self):
        calls = [0, 3, 2, 1, 0, 2, 0, 1, 1, 1, 2, 1, 2, 2, 1, 1, 7, 3, 1, 10, 2, 1, 0, 3, 1, 0, 8, 8, 9]
        self.assertEqual(answers(calls), [
            1, 0, 5, 4, 2, 3, 4, 5, 5, 4, 1, 2, 5, 6, 3, 2, 0, 1, 1, 1, 3, 1, 3, 1, 3, 2, 0, 1, 2, 1, 0, 1, 1, 1, 0])
