"""Classes: those of plain turning, their powers, and counts as all pairs walked tell them."""

import unittest

from classtab.classes import class_numbers, classes_of, counts_of, powers_of, sizes_of
from tests.helper import cyclic, few_classes, naive_classes, naive_power, sample_groups, told, untouched, with_orders

GROUPS = sample_groups()
FEW = with_orders(few_classes())
CLASSES = {name: naive_classes(group) for name, group in GROUPS.items()}


class Classes(unittest.TestCase):
    def test_classes(self):
        for name, group in GROUPS.items():
            told(self, untouched(self, classes_of, group), CLASSES[name])

    def test_numbers(self):
        for name, group in GROUPS.items():
            want = tuple([k for k, members in enumerate(CLASSES[name]) if a in members][0] for a in range(len(group)))
            told(self, untouched(self, class_numbers, group), want)

    def test_sizes(self):
        for name, group in GROUPS.items():
            told(self, untouched(self, sizes_of, group), tuple(len(members) for members in CLASSES[name]))

    def test_known(self):
        self.assertEqual(sorted(sizes_of(GROUPS["a5"])), [1, 12, 12, 15, 20])
        self.assertEqual(sorted(sizes_of(GROUPS["s4 shuffled"])), [1, 3, 6, 6, 8])
        told(self, classes_of(GROUPS["s3"]), ((0,), (1, 2, 5), (3, 4)))
        told(self, class_numbers(GROUPS["s3"]), (0, 1, 1, 2, 2, 1))
        told(self, classes_of(cyclic(1)), ((0,),))
        told(self, sizes_of(cyclic(60)), (1,) * 60)

    def test_powers(self):
        for name, group in GROUPS.items():
            classes = CLASSES[name]
            for k in (0, 1, -1, 2, -2, 3, 5, 30, -61, 10 ** 40 - 1, -10 ** 40 + 1, 10 ** 60):
                got = untouched(self, powers_of, group, k)
                self.assertIs(type(got), tuple)
                self.assertEqual(len(got), len(classes))
                for members, number in zip(classes, got):
                    self.assertIs(type(number), int)
                    self.assertTrue(all(naive_power(group, a, k) in classes[number] for a in members), name)

    def test_known_powers(self):
        told(self, powers_of(GROUPS["s3"], 2), (0, 0, 2))
        told(self, powers_of(GROUPS["s3"], 3), (0, 1, 0))
        told(self, powers_of(cyclic(5), -1), (0, 4, 3, 2, 1))
        told(self, powers_of(cyclic(5), 0), (0, 0, 0, 0, 0))

    def test_counts(self):
        for name, group in FEW.items():
            classes = CLASSES[name]
            want = tuple(
                tuple(
                    tuple(sum(1 for x in one for y in other if group[x][y] == ends[0]) for ends in classes)
                    for other in classes)
                for one in classes)
            told(self, untouched(self, counts_of, group), want)

    def test_known_counts(self):
        told(self, counts_of(GROUPS["s3"]), (
            ((1, 0, 0), (0, 1, 0), (0, 0, 1)), ((0, 1, 0), (3, 0, 3), (0, 2, 0)), ((0, 0, 1), (0, 2, 0), (2, 0, 1))))
        told(self, counts_of(cyclic(1)), (((1,),),))

    def test_counts_are_those_of_each_thing_of_a_class(self):
        for name in ("s4", "f21 shuffled", "a5"):
            group = FEW[name]
            counts = counts_of(group)
            for k, ends in enumerate(CLASSES[name]):
                for z in ends:
                    for i, one in enumerate(CLASSES[name]):
                        for j, other in enumerate(CLASSES[name]):
                            walked = sum(1 for x in one for y in other if group[x][y] == z)
                            self.assertEqual(counts[i][j][k], walked)


if __name__ == "__main__":
    unittest.main()
