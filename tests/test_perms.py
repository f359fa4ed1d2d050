"""Perms: what is one, and one times another."""

import itertools
import random
import unittest

from classtab.perms import is_perm, perm_times
from tests.helper import plain_things, told, untouched


class IsPerm(unittest.TestCase):
    def test_perms_of_each_number_of_places(self):
        chance = random.Random(40)
        for m in range(1, 25):
            for case in range(5):
                perm = list(range(m))
                chance.shuffle(perm)
                self.assertIs(untouched(self, is_perm, tuple(perm)), True)
            self.assertIs(is_perm(tuple(range(m))), True)
            self.assertIs(is_perm(tuple(reversed(range(m)))), True)

    def test_all_tuples_of_few_numbers(self):
        for m in range(5):
            for thing in itertools.product(range(-1, m + 1), repeat=m):
                self.assertIs(is_perm(thing), m > 0 and sorted(thing) == list(range(m)), thing)

    def test_wrong_numbers_of_places(self):
        for m in (0, 25, 26, 60):
            self.assertIs(is_perm(tuple(range(m))), False)

    def test_faults_at_any_place(self):
        for m in range(1, 25):
            for k in range(m):
                for wrong in (-1, m, 10 ** 39, None, "0", str(k), [k], (k,), {}, {k: k}, []):
                    self.assertIs(is_perm(tuple(wrong if i == k else i for i in range(m))), False)
                if m > 1:
                    self.assertIs(is_perm(tuple((k + 1) % m if i == k else i for i in range(m))), False)

    def test_truths_and_lists(self):
        for thing in ((False,), (False, 1), (0, True), (True, 0), (1, False), (2, True, 0)):
            self.assertIs(is_perm(thing), False)
        for m in range(1, 25):
            self.assertIs(is_perm(list(range(m))), False)

    def test_any_plain_thing(self):
        for thing in plain_things():
            self.assertIs(untouched(self, is_perm, thing), False, thing)


class PermTimes(unittest.TestCase):
    def test_first_as_the_other_one_tells(self):
        told(self, perm_times((1, 0, 2), (0, 2, 1)), (1, 2, 0))
        told(self, perm_times((0, 2, 1), (1, 0, 2)), (2, 0, 1))
        told(self, perm_times((0,), (0,)), (0,))

    def test_each_place(self):
        chance = random.Random(41)
        for m in range(1, 25):
            one = list(range(m))
            other = list(range(m))
            chance.shuffle(one)
            chance.shuffle(other)
            got = untouched(self, perm_times, tuple(one), tuple(other))
            self.assertIs(is_perm(got), True)
            for place in range(m):
                self.assertEqual(got[place], one[other[place]])


if __name__ == "__main__":
    unittest.main()
