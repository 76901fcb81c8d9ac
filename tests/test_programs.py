import unittest

from things import of_every_kind, told_twice
from wholefract.programs import is_program

MANY = ((455, 33), (11, 13), (1, 11), (3, 7), (11, 2), (1, 3), (17, 91), (78, 85), (19, 51), (23, 38), (29, 33),
        (77, 29), (95, 23), (77, 19), (1, 17), (11, 13))


class IsProgram(unittest.TestCase):
    def is_one(self, thing):
        self.assertIs(told_twice(is_program, thing), True, repr(thing)[:200])

    def is_none(self, thing):
        self.assertIs(told_twice(is_program, thing), False, repr(thing)[:200])

    def is_no_fraction(self, thing):
        self.is_none((thing,))
        for place in (0, 1, 2):
            self.is_none(MANY[:place] + (thing,) + MANY[place:2])

    def test_how_many_fractions(self):
        self.is_none(())
        for many in range(1, 17):
            self.is_one(MANY[:many])
        self.is_none(MANY + ((2, 3),))
        self.is_none(((2, 3),) * 9999)

    def test_ordinary(self):
        for program in (((455, 33), (11, 13), (1, 11)), ((1, 1),), ((6, 1),), ((1, 6),), ((3, 2),),
                        ((6469693230, 1),), ((2 ** 39, 3 ** 25),)):
            self.is_one(program)

    def test_like_fractions(self):
        self.is_one(((2, 3), (2, 3)))
        self.is_one(((1, 1),) * 16)

    def test_each_prime_above_and_below(self):
        for prime in (2, 3, 5, 7, 11, 13, 17, 19, 23, 29):
            self.is_one(((prime, 1), (1, prime)))
            self.is_no_fraction((prime, prime))
            self.is_no_fraction((prime * prime, prime))
            self.is_no_fraction((prime, 6469693230))

    def test_common_divisors(self):
        for fraction in ((2, 2), (6, 4), (4, 6), (10, 15), (29, 58), (10 ** 12, 10 ** 12), (455, 35)):
            self.is_no_fraction(fraction)

    def test_nought_and_below(self):
        for fraction in ((0, 1), (1, 0), (0, 0), (-1, 1), (1, -1), (-2, 3), (2, -3), (-2, -3), (-10 ** 12, 3)):
            self.is_no_fraction(fraction)

    def test_ten_to_the_twelve(self):
        self.is_one(((10 ** 12, 3),))
        self.is_one(((3, 10 ** 12),))
        self.is_one(((10 ** 12, 1), (1, 10 ** 12)))
        # the least number of the ten primes alone that is beyond
        for beyond in (1000005161400, 2 ** 40, 3 * 10 ** 12, 10 ** 13, 2 ** 199):
            self.is_no_fraction((beyond, 1))
            self.is_no_fraction((1, beyond))
        self.is_no_fraction((10 ** 12 + 1, 1))
        self.is_one(((999997964280, 1), (1, 999997964280)))

    def test_primes_beyond(self):
        for prime in (31, 37, 41, 101, 999999999989):
            self.is_no_fraction((prime, 1))
            self.is_no_fraction((1, prime))
            self.is_no_fraction((prime, 2))
        self.is_no_fraction((2 * 31, 3))
        self.is_no_fraction((2, 3 * 31))
        self.is_no_fraction((31, 31))

    def test_truths(self):
        for fraction in ((True, 1), (1, True), (True, True), (False, 1), (2, True), (1, False)):
            self.is_no_fraction(fraction)
        self.is_no_fraction(True)

    def test_lists_in_the_place_of_tuples(self):
        self.is_none([(2, 3)])
        self.is_none([[2, 3]])
        self.is_none({0: (2, 3)})
        self.is_none({(2, 3): 0})
        self.is_no_fraction([2, 3])
        self.is_no_fraction({2: 3, 5: 7})

    def test_parts_too_few_or_too_many(self):
        for fraction in ((), (2,), (2, 3, 5), (2, 3, 1), (1,) * 10, ((2, 3),), ((2, 3), (5, 7))):
            self.is_no_fraction(fraction)
        self.is_none((2, 3))

    def test_parts_of_every_kind(self):
        for thing in of_every_kind():
            self.is_none(thing)
            if thing != (2, 3):
                self.is_no_fraction(thing)
            self.is_no_fraction((thing, 1))
            self.is_no_fraction((1, thing))
        self.is_no_fraction(("2", "3"))
        self.is_no_fraction("2/3")
