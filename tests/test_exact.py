"""NUMBERs: one form for each number, and what is told of them."""

import math
import random
import unittest

from classtab.exact import (
    divided, flipped, is_number, less, narrowed, number_of, places, plus, scaled, times, turned, whole, whole_of,
    widened,
)
from tests.helper import (
    LEAST, coprime, moved, multiplied, plain_things, remains, some_number, stretched, told, untouched,
)

ALL_N = range(1, 61)


def is_prime(p):
    return p > 1 and all(p % k for k in range(2, math.isqrt(p) + 1))


def root_of(n):
    """A great prime and a number of which, by the rest by that prime, the power n is 1 and no lesser one is."""
    p = 10 ** 9 // n * n + 1
    while not is_prime(p):
        p += n
    for base in range(2, p):
        z = pow(base, (p - 1) // n, p)
        if all(pow(z, k, p) != 1 for k in range(1, n)):
            return p, z


class Places(unittest.TestCase):
    def test_places(self):
        for n in ALL_N:
            told(self, places(n), len(coprime(n)))
        self.assertEqual([places(n) for n in (1, 2, 3, 4, 12, 30, 59, 60)], [1, 1, 2, 2, 4, 8, 58, 16])

    def test_the_least_sum_is_nought(self):
        for n in ALL_N:
            told(self, number_of(n, LEAST[n]), (0,) * places(n))
            self.assertEqual(len(LEAST[n]), places(n) + 1)

    def test_powers_below_places_stand_as_they_are(self):
        for n in ALL_N:
            for k in range(places(n)):
                want = tuple(1 if j == k else 0 for j in range(places(n)))
                told(self, number_of(n, [0] * k + [1]), want)

    def test_the_power_at_places_is_the_least_sum_otherwise(self):
        for n in ALL_N:
            told(self, number_of(n, (0,) * places(n) + (1,)), tuple(-x for x in LEAST[n][:-1]))


class NumberOf(unittest.TestCase):
    def test_what_remains(self):
        chance = random.Random(10)
        for n in ALL_N:
            for length in (0, 1, 2, 3, places(n), n, n + 1, 61, 120, 200):
                powers = [chance.randint(-9, 9) for k in range(length)]
                told(self, untouched(self, number_of, n, powers), remains(n, powers))
                told(self, number_of(n, tuple(powers)), remains(n, powers))

    def test_great_numbers(self):
        chance = random.Random(11)
        for n in ALL_N:
            for top in (10 ** 20 - 1, 10 ** 40 - 1, 10 ** 60):
                powers = [chance.choice((0, top, -top, chance.randint(-top, top))) for k in range(200)]
                told(self, number_of(n, powers), remains(n, powers))

    def test_none_and_noughts(self):
        for n in ALL_N:
            for powers in ([], (), [0], (0,) * 200):
                told(self, number_of(n, powers), (0,) * places(n))

    def test_sums_that_mean_one_number(self):
        chance = random.Random(12)
        for n in ALL_N:
            powers = [chance.randint(-5, 5) for k in range(40)] + [0] * 100
            want = number_of(n, powers)
            for deed in range(6):
                start = chance.randrange(60)
                if deed % 2:
                    for j, x in enumerate(LEAST[n]):
                        powers[start + j] += 7 * x
                else:
                    powers[start] += 3
                    powers[start + n] -= 3
                told(self, number_of(n, powers), want)

    def test_the_roots_of_a_divisor_add_up_to_nought(self):
        for n in ALL_N:
            for d in range(2, n + 1):
                if n % d == 0:
                    powers = [1 if k % (n // d) == 0 else 0 for k in range(n)]
                    told(self, number_of(n, powers), (0,) * places(n))

    def test_each_power_counts_by_its_rest(self):
        for n in ALL_N:
            for k in (0, 1, n // 2, n - 1, n, n + 1, 2 * n, 139):
                told(self, number_of(n, [0] * k + [5]), number_of(n, [0] * (k % n) + [5]))

    def test_one_number_just_where_the_sums_are_one(self):
        chance = random.Random(13)
        for n in ALL_N:
            p, z = root_of(n)
            for case in range(20):
                powers = [chance.choice((0, 0, 1, -1)) for k in range(n)]
                number = number_of(n, powers)
                for k in coprime(n):
                    value = sum(x * pow(z, j * k, p) for j, x in enumerate(powers)) % p
                    self.assertEqual(sum(x * pow(z, j * k, p) for j, x in enumerate(number)) % p, value)
                if any(powers[:places(n)]) and not any(powers[places(n):]):
                    self.assertNotEqual(number, number_of(n, []))

    def test_unlike_sums_are_told_as_two(self):
        for n in ALL_N:
            for k in range(1, n):
                self.assertNotEqual(number_of(n, [0] * k + [1]), number_of(n, [1]))
            self.assertNotEqual(number_of(n, [10 ** 19]), number_of(n, [10 ** 19 + 1]))

    def test_whole(self):
        for n in ALL_N:
            for k in (0, 1, -1, 60, 10 ** 39, -10 ** 39):
                told(self, whole(n, k), (k,) + (0,) * (len(coprime(n)) - 1))
                told(self, whole(n, k), number_of(n, [k]))


class IsNumber(unittest.TestCase):
    def test_numbers(self):
        chance = random.Random(14)
        for n in ALL_N:
            for most in (1, 10 ** 20 - 1, 10 ** 40 - 1):
                self.assertIs(is_number(n, some_number(n, chance, most)), True)
            self.assertIs(is_number(n, (0,) * places(n)), True)

    def test_wrong_lengths(self):
        for n in ALL_N:
            for length in range(70):
                self.assertIs(is_number(n, (0,) * length), length == places(n))

    def test_lists_are_none(self):
        for n in ALL_N:
            self.assertIs(is_number(n, [0] * places(n)), False)

    def test_things_within(self):
        for n in (1, 2, 3, 5, 8, 12, 60):
            for wrong in (True, False, None, "0", "", [], [0], (), (0,), {}, {0: 0}):
                for k in range(places(n)):
                    thing = tuple(wrong if j == k else 0 for j in range(places(n)))
                    self.assertIs(is_number(n, thing), False, thing)

    def test_any_plain_thing(self):
        for thing in plain_things():
            want = thing in [(10 ** 39,), (-1,)] and isinstance(thing, tuple)
            for n in (1, 2):
                self.assertIs(untouched(self, is_number, n, thing), want, thing)
            for n in (3, 4, 6, 7, 60):
                self.assertIs(is_number(n, thing), False, thing)


class Sums(unittest.TestCase):
    def test_plus_less_scaled(self):
        chance = random.Random(15)
        for n in ALL_N:
            for most in (9, 10 ** 20 - 1):
                one = some_number(n, chance, most)
                other = some_number(n, chance, most)
                told(self, untouched(self, plus, one, other), tuple(x + y for x, y in zip(one, other)))
                told(self, untouched(self, less, one, other), tuple(x - y for x, y in zip(one, other)))
                for k in (0, 1, -1, 7, -10 ** 19):
                    told(self, scaled(one, k), tuple(x * k for x in one))

    def test_times(self):
        chance = random.Random(16)
        for n in ALL_N:
            for most in (3, 10 ** 20 - 1):
                for case in range(4):
                    one = some_number(n, chance, most)
                    other = some_number(n, chance, most)
                    told(self, untouched(self, times, n, one, other), remains(n, multiplied(one, other)))

    def test_times_a_whole_one(self):
        chance = random.Random(17)
        for n in ALL_N:
            one = some_number(n, chance)
            told(self, times(n, one, whole(n, 1)), one)
            told(self, times(n, whole(n, -3), one), scaled(one, -3))
            told(self, times(n, one, whole(n, 0)), whole(n, 0))

    def test_examples(self):
        told(self, times(4, (0, 1), (0, 1)), (-1, 0))
        told(self, times(3, (0, 1), (0, 1)), (-1, -1))
        told(self, times(5, (0, 0, 0, 1), (0, 1, 0, 0)), (-1, -1, -1, -1))
        told(self, times(1, (6,), (-7,)), (-42,))
        told(self, times(2, (6,), (-7,)), (-42,))
        told(self, flipped(4, (2, 3)), (2, -3))
        told(self, flipped(3, (0, 1)), (-1, -1))
        told(self, number_of(6, [0, 0, 1]), (-1, 1))

    def test_flipped(self):
        chance = random.Random(18)
        for n in ALL_N:
            for most in (3, 10 ** 20 - 1):
                one = some_number(n, chance, most)
                told(self, untouched(self, flipped, n, one), moved(n, one, -1))
                told(self, flipped(n, flipped(n, one)), one)

    def test_turned(self):
        chance = random.Random(19)
        for n in ALL_N:
            one = some_number(n, chance, 10 ** 20 - 1)
            for k in coprime(n):
                want = moved(n, one, k)
                told(self, turned(n, one, k), want)
                told(self, turned(n, one, k - n), want)
                told(self, turned(n, one, k - n * 10 ** 20), want)
                told(self, turned(n, one, k + n * 10 ** 20), want)

    def test_of_one_any_turn_will_do(self):
        for k in (0, 1, -1, 2, 60, -10 ** 30, 10 ** 30):
            told(self, turned(1, (8,), k), (8,))


class WideAndNarrow(unittest.TestCase):
    def test_widened(self):
        chance = random.Random(20)
        for m in ALL_N:
            for n in range(1, m + 1):
                if m % n == 0:
                    one = some_number(n, chance, 10 ** 20 - 1)
                    told(self, untouched(self, widened, n, one, m), stretched(n, one, m))

    def test_narrowed_is_widened_back(self):
        chance = random.Random(21)
        for n in ALL_N:
            for m in range(1, n + 1):
                if n % m == 0:
                    for most in (3, 10 ** 20 - 1):
                        one = some_number(m, chance, most)
                        wide = stretched(m, one, n)
                        told(self, untouched(self, narrowed, n, wide, m), one)

    def test_narrowed_or_none(self):
        # A number of n is one of m just where no turning that leaves the root of m changes it.
        chance = random.Random(22)
        for n in ALL_N:
            divisors = [d for d in range(1, n + 1) if n % d == 0]
            for d in divisors:
                one = stretched(d, some_number(d, chance, 3), n)
                for m in divisors:
                    stays = all(moved(n, one, k) == one for k in coprime(n) if k % m == 1 % m)
                    got = narrowed(n, one, m)
                    self.assertEqual(got is not None, stays, (n, one, m))
                    if stays:
                        self.assertIs(is_number(m, got), True)
                        told(self, stretched(m, got, n), one)

    def test_each_power_narrowed(self):
        for n in ALL_N:
            for m in range(1, n + 1):
                if n % m == 0:
                    for k in range(n):
                        one = remains(n, [0] * k + [1])
                        stays = all(moved(n, one, t) == one for t in coprime(n) if t % m == 1 % m)
                        self.assertEqual(narrowed(n, one, m) is not None, stays, (n, k, m))

    def test_examples(self):
        told(self, narrowed(6, (0, 1), 3), (1, 1))
        self.assertIsNone(narrowed(4, (0, 1), 2))
        self.assertIsNone(narrowed(8, (0, 1, 0, 1), 4))
        told(self, narrowed(5, (-2, 0, 0, 0), 1), (-2,))
        told(self, narrowed(12, (3, 0, 1, 0), 12), (3, 0, 1, 0))

    def test_divided(self):
        chance = random.Random(23)
        for n in ALL_N:
            one = some_number(n, chance, 10 ** 19)
            for k in (1, 2, 3, 60, 10 ** 15):
                told(self, untouched(self, divided, tuple(x * k for x in one), k), one)
            for k in (2, 60, 10 ** 15):
                for j in range(places(n)):
                    thing = tuple(x * k + (1 if i == j else 0) for i, x in enumerate(one))
                    self.assertIsNone(divided(thing, k))
            told(self, divided(whole(n, 0), 7), whole(n, 0))
            told(self, divided(whole(n, -6), 4), None)
            told(self, divided(whole(n, -6), 3), whole(n, -2))

    def test_whole_of(self):
        for n in ALL_N:
            for k in (0, 1, -1, 10 ** 39, -10 ** 39):
                told(self, whole_of((k,) + (0,) * (places(n) - 1)), k)
                for j in range(1, places(n)):
                    self.assertIsNone(whole_of((k,) + tuple(-1 if i == j else 0 for i in range(1, places(n)))))


if __name__ == "__main__":
    unittest.main()
