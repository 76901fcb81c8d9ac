import unittest

from things import of_every_kind, refusal_of, told_twice
from wholefract.errors import NoNumber, TooMany
from wholefract.programs import PRIMES, is_powers, number_of, powers_of

TEN = (2, 3, 5, 7, 11, 13, 17, 19, 23, 29)


def product(powers):
    number = 1
    for prime, power in zip(TEN, powers):
        number *= prime ** power
    return number


def with_power(place, power):
    return (0,) * place + (power,) + (0,) * (9 - place)


class IsPowers(unittest.TestCase):
    def test_the_primes(self):
        self.assertEqual(PRIMES, TEN)

    def test_powers(self):
        for thing in ((0,) * 10, (1,) * 10, tuple(range(10)), (10 ** 6,) * 10, (10 ** 6 + 1,) * 10,
                      (10 ** 59,) * 10, (10 ** 5000,) * 10, with_power(0, 3), with_power(9, 10 ** 18)):
            self.assertIs(told_twice(is_powers, thing), True)

    def test_how_many_parts(self):
        for many in (0, 1, 2, 9, 11, 20, 9999):
            self.assertIs(told_twice(is_powers, (0,) * many), False)

    def test_one_wrong_part_at_each_place(self):
        for wrong in (-1, -10 ** 59, True, False, None, "", "0", "1", [], [0], (), (0,), {}, {0: 0}):
            for place in range(10):
                self.assertIs(told_twice(is_powers, with_power(place, wrong)), False, repr(wrong))

    def test_a_list_or_dict_in_the_place_of_the_tuple(self):
        self.assertIs(told_twice(is_powers, [0] * 10), False)
        self.assertIs(told_twice(is_powers, dict.fromkeys(range(10), 0)), False)
        self.assertIs(told_twice(is_powers, "0000000000"), False)

    def test_of_anything(self):
        for thing in of_every_kind():
            self.assertIs(told_twice(is_powers, thing), False)


class NumberOf(unittest.TestCase):
    def test_ordinary(self):
        self.assertEqual(told_twice(number_of, (0,) * 10), 1)
        self.assertEqual(number_of((3, 0, 0, 1, 0, 0, 0, 0, 0, 0)), 56)
        self.assertEqual(number_of((1,) * 10), 6469693230)
        for place, prime in enumerate(TEN):
            self.assertEqual(number_of(with_power(place, 1)), prime)
            self.assertEqual(number_of(with_power(place, 7)), prime ** 7)

    def test_sixty_figures_and_sixty_one(self):
        for place, prime in enumerate(TEN):
            most = 0
            while prime ** (most + 1) < 10 ** 60:
                most += 1
            self.assertEqual(number_of(with_power(place, most)), prime ** most)
            self.assertIs(refusal_of(number_of, with_power(place, most + 1)), TooMany)

    def test_round_ten_to_the_sixty(self):
        self.assertEqual(number_of((59, 0, 59, 0, 0, 0, 0, 0, 0, 0)), 10 ** 59)
        self.assertEqual(number_of((59, 0, 60, 0, 0, 0, 0, 0, 0, 0)), 5 * 10 ** 59)
        self.assertIs(refusal_of(number_of, (60, 0, 60, 0, 0, 0, 0, 0, 0, 0)), TooMany)

    def test_sixty_figures_of_all_primes(self):
        powers = (6,) * 10
        self.assertEqual(len(str(product(powers))), 59)
        self.assertEqual(number_of(powers), product(powers))
        for place in range(10):
            for more in range(6, 12):
                great = powers[:place] + (more,) + powers[place + 1:]
                if product(great) < 10 ** 60:
                    self.assertEqual(number_of(great), product(great))
                else:
                    self.assertIs(refusal_of(number_of, great), TooMany)

    def test_far_beyond(self):
        for great in (201, 10 ** 3, 10 ** 6, 10 ** 59):
            self.assertIs(refusal_of(number_of, (great,) * 10), TooMany)
            for place in range(10):
                self.assertIs(refusal_of(number_of, with_power(place, great)), TooMany)


class PowersOf(unittest.TestCase):
    def test_back_from_the_number(self):
        for powers in ((0,) * 10, (1,) * 10, (6,) * 10, (199,) + (0,) * 9, (59, 0, 60) + (0,) * 7,
                       tuple(range(7)) + (0, 1, 0), (3, 0, 0, 1) + (0,) * 6, (0,) * 9 + (41,), (0, 2) * 5):
            self.assertEqual(told_twice(powers_of, number_of(powers)), powers)

    def test_all_small_numbers(self):
        told = {}
        for number in range(1, 3000):
            rest, powers = number, []
            for prime in TEN:
                powers.append(0)
                while rest % prime == 0:
                    rest //= prime
                    powers[-1] += 1
            if rest == 1:
                told[number] = powers_of(number)
                self.assertEqual(told[number], tuple(powers))
                self.assertEqual(number_of(told[number]), number)
            else:
                self.assertIs(refusal_of(powers_of, number), NoNumber)
        self.assertEqual(told[1], (0,) * 10)
        self.assertEqual(told[56], (3, 0, 0, 1, 0, 0, 0, 0, 0, 0))

    def test_kinds_of_what_is_told(self):
        told = powers_of(2 ** 5 * 29)
        self.assertTrue(is_powers(told))
        self.assertIs(told.__class__, tuple)

    def test_no_whole_number_from_one_on(self):
        for number in (0, -1, -2, -30, -10 ** 59):
            self.assertIs(refusal_of(powers_of, number), NoNumber)

    def test_primes_beyond(self):
        for prime in (31, 37, 41, 97, 101, 10 ** 9 + 7):
            for times in (1, 2, 29, 6469693230, prime, 2 ** 60):
                self.assertIs(refusal_of(powers_of, prime * times), NoNumber)

    def test_truths(self):
        self.assertIs(refusal_of(powers_of, True), NoNumber)
        self.assertIs(refusal_of(powers_of, False), NoNumber)

    def test_of_anything(self):
        for thing in of_every_kind() + ["1", "2", "2^1", (2,), [2], {2: 2}, (0,) * 10]:
            self.assertIs(refusal_of(powers_of, thing), NoNumber)
