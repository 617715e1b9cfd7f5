"""Point 4: wants, contents, covered, the rest, lesser wants; with point 2."""

import itertools
import unittest

from packwants.wants import covers, lesser, rest
from tests.helper import AskCase


class CoversTest(AskCase):
    def test_one_thing(self):
        self.told(True, covers, [3], [3])
        self.told(True, covers, [4], [3])
        self.told(False, covers, [2], [3])
        self.told(True, covers, [0], [0])
        self.told(False, covers, [0], [1])
        self.told(True, covers, [1], [0])

    def test_equal_numbers(self):
        for want in ([9], [1, 2], [0, 0, 0], [1, 2, 3], [3, 0, 2, 1]):
            self.told(True, covers, list(want), list(want))

    def test_less_of_one_thing_alone(self):
        for things in (1, 2, 3, 4):
            for thing in range(things):
                want = [2] * things
                content = [2] * things
                content[thing] = 1
                self.told(False, covers, content, want)

    def test_more_of_one_thing_alone(self):
        for things in (1, 2, 3, 4):
            for thing in range(things):
                want = [2] * things
                content = [2] * things
                content[thing] = 3
                self.told(True, covers, content, want)

    def test_more_of_one_thing_does_not_make_up_for_another(self):
        self.told(False, covers, [9, 1], [2, 2])
        self.told(False, covers, [1, 9], [2, 2])
        self.told(False, covers, [9, 9, 9, 0], [1, 1, 1, 1])

    def test_numbers_of_up_to_four_figures(self):
        # Compared as texts, 10 and 1000 would stand ahead of 9.
        self.told(True, covers, [10], [9])
        self.told(True, covers, [1000, 108], [9, 9])
        self.told(True, covers, [9999, 9999, 9999, 9999], [3, 3, 3, 3])
        self.told(False, covers, [9999, 0], [9, 1])

    def test_all_of_two_things(self):
        for have in itertools.product(range(4), repeat=2):
            for want in itertools.product(range(4), repeat=2):
                expected = have[0] >= want[0] and have[1] >= want[1]
                self.told(expected, covers, list(have), list(want))

    def test_no_content_covers_noughts_alone(self):
        self.told(True, covers, [], [0, 0])
        self.told(False, covers, [], [0, 1])


class RestTest(AskCase):
    def test_one_thing(self):
        self.told([3], rest, [3], [0])
        self.told([1], rest, [3], [2])
        self.told([0], rest, [3], [3])
        self.told([0], rest, [3], [4])
        self.told([0], rest, [0], [0])

    def test_equal_numbers(self):
        for want in ([9], [1, 2], [0, 0, 0], [1, 2, 3], [3, 0, 2, 1]):
            self.told([0] * len(want), rest, list(want), list(want))

    def test_one_thing_alone_differs(self):
        for things in (1, 2, 3, 4):
            for thing in range(things):
                less = [2] * things
                less[thing] = 0
                expected = [0] * things
                expected[thing] = 2
                self.told(expected, rest, [2] * things, less)
                more = [2] * things
                more[thing] = 5
                self.told([0] * things, rest, [2] * things, more)

    def test_each_thing_on_its_own(self):
        self.told([4, 0, 0, 1], rest, [5, 0, 1, 2], [1, 3, 1, 1])
        self.told([0, 9], rest, [1, 9], [9, 0])

    def test_numbers_of_up_to_four_figures(self):
        self.told([0, 0], rest, [9, 9], [10, 9999])
        self.told([0, 8], rest, [9, 9], [1000, 1])

    def test_all_of_two_things(self):
        for have in itertools.product(range(4), repeat=2):
            for want in itertools.product(range(4), repeat=2):
                expected = [w - h if w > h else 0 for w, h in zip(want, have)]
                self.told(expected, rest, list(want), list(have))

    def test_the_answer_is_not_the_wants_themselves(self):
        want = [1, 2]
        told = rest(want, [0, 0])
        self.assertEqual(told, want)
        self.assertIsNot(told, want)

    def test_behind_no_content_all_is_left(self):
        self.told([2, 0], rest, [2, 0], [])


class LesserTest(AskCase):
    def test_one_thing(self):
        self.told([[0]], lesser, [0])
        self.told([[0], [1]], lesser, [1])
        self.told([[number] for number in range(10)], lesser, [9])

    def test_wants_of_noughts(self):
        for things in (1, 2, 3, 4):
            self.told([[0] * things], lesser, [0] * things)

    def test_two_things_in_order(self):
        self.told([[0, 0], [0, 1], [0, 2], [1, 0], [1, 1], [1, 2]], lesser, [1, 2])
        self.told([[0, 0], [0, 1], [1, 0], [1, 1], [2, 0], [2, 1]], lesser, [2, 1])

    def test_a_thing_that_is_not_wanted(self):
        self.told([[0, 0, 0], [0, 0, 1], [1, 0, 0], [1, 0, 1]], lesser, [1, 0, 1])

    def test_four_things(self):
        told = self.ask(lesser, [1, 1, 1, 1])
        self.assertEqual(told, [list(less) for less in itertools.product((0, 1), repeat=4)])

    def check_all(self, want, many):
        told = self.ask(lesser, want[:])
        self.assertEqual(len(told), many)
        self.assertEqual(told[0], [0] * len(want))
        self.assertEqual(told[-1], want)
        for less in told:
            self.assertEqual(len(less), len(want))
            self.assertTrue(all(0 <= number <= most for number, most in zip(less, want)))
        # Strictly rising in the order of point 2, so each is there once.
        self.assertTrue(all(low < high for low, high in zip(told, told[1:])))

    def test_four_hundred(self):
        self.check_all([9, 9, 3, 0], 400)
        self.check_all([4, 4, 3, 3], 400)
        self.check_all([0, 3, 9, 9], 400)

    def test_many_shapes(self):
        for want in itertools.product(range(3), repeat=3):
            many = (want[0] + 1) * (want[1] + 1) * (want[2] + 1)
            self.check_all(list(want), many)

    def test_changing_one_changes_no_other(self):
        told = lesser([1, 2])
        for at in range(len(told)):
            told[at].append(99)
            self.assertEqual(sum(less.count(99) for less in told), at + 1)
        self.assertEqual(lesser([1, 2])[0], [0, 0])


if __name__ == "__main__":
    unittest.main()
