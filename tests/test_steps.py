import unittest

from things import (ADDING, MULTIPLYING, ONE, PRIME_TELLING, first_by_number, product, refused_with, small_powers,
                    small_programs, told_twice, walk, with_powers)
from wholefract.errors import AtRest
from wholefract.steps import after, first_fit, leap, step, trail


class Steps(unittest.TestCase):
    def rests(self, steps, call, *handed):
        refusal = refused_with(call, *handed)
        self.assertIs(refusal.__class__, AtRest)
        self.assertIs(refusal.steps.__class__, int)
        self.assertEqual(refusal.steps, steps)

    def as_by_numbers(self, program, powers, many):
        """All that point 7 tells of so many steps, against the numbers themselves."""
        reached, used = walk(program, powers, many)
        for count in range(many + 1):
            self.assertEqual(trail(program, powers, count), used[:count])
            if count < len(reached):
                self.assertEqual(told_twice(after, program, powers, count), reached[count])
            else:
                self.rests(len(used), after, program, powers, count)
        for count, place in enumerate(used):
            self.assertEqual(first_fit(program, reached[count]), place)
            self.assertEqual(step(program, reached[count]), reached[count + 1])
        if len(used) < many:
            self.assertIsNone(first_fit(program, reached[-1]))
            self.rests(0, step, program, reached[-1])


class FirstFit(Steps):
    def test_ordinary(self):
        self.assertEqual(told_twice(first_fit, MULTIPLYING, with_powers(p2=1)), 4)
        self.assertEqual(first_fit(MULTIPLYING, with_powers(p3=1)), 5)
        self.assertEqual(first_fit(MULTIPLYING, with_powers(p3=1, p11=1)), 0)
        self.assertEqual(first_fit(MULTIPLYING, with_powers(p2=1, p3=1)), 4)
        self.assertIsNone(told_twice(first_fit, MULTIPLYING, with_powers(p5=6)))

    def test_as_often_as_the_bottom_wants(self):
        program = ((5, 12), (7, 4), (11, 3), (13, 2))
        for twos in range(5):
            for threes in range(4):
                powers = with_powers(p2=twos, p3=threes)
                self.assertEqual(first_fit(program, powers), first_by_number(program, product(powers)))
        self.assertEqual(first_fit(program, with_powers(p2=2, p3=1)), 0)
        self.assertEqual(first_fit(program, with_powers(p2=2)), 1)
        self.assertEqual(first_fit(program, with_powers(p2=1, p3=1)), 2)
        self.assertEqual(first_fit(program, with_powers(p2=1)), 3)
        self.assertIsNone(first_fit(program, ONE))

    def test_what_goes_into_the_top_does_not_help(self):
        self.assertIsNone(first_fit(((25, 4),), with_powers(p2=1, p5=9)))
        self.assertIsNone(first_fit(((2 ** 39, 3),), with_powers(p2=10 ** 6)))

    def test_nothing_below_fits_always(self):
        for powers in (ONE, (10 ** 6,) * 10, with_powers(p29=3)):
            self.assertEqual(first_fit(((1, 1),), powers), 0)
            self.assertEqual(first_fit(((6, 1), (1, 1)), powers), 0)

    def test_the_first_of_like_ones(self):
        self.assertEqual(first_fit(((5, 7), (3, 2), (3, 2)), with_powers(p2=1)), 1)

    def test_the_last_of_sixteen(self):
        program = ((1, 29),) * 15 + ((29, 23),)
        self.assertEqual(first_fit(program, with_powers(p23=1)), 15)
        self.assertEqual(first_fit(program, with_powers(p23=1, p29=1)), 0)

    def test_however_great(self):
        for great in (10 ** 6, 10 ** 18, 10 ** 60):
            self.assertEqual(first_fit(MULTIPLYING, (great,) * 10), 0)
            self.assertEqual(first_fit(MULTIPLYING, with_powers(p2=great)), 4)
            self.assertIsNone(first_fit(MULTIPLYING, with_powers(p5=great)))


class OneByOne(Steps):
    def test_small_programs(self):
        for program, powers in zip(small_programs(300), small_powers(300)):
            self.as_by_numbers(program, powers, 25)

    def test_programs_of_more_primes(self):
        for program, powers in zip(small_programs(60, 10, 3), small_powers(60, 10, 4, 5)):
            self.as_by_numbers(program, powers, 12)

    def test_the_documents_programs(self):
        self.as_by_numbers(ADDING, with_powers(p2=5, p3=4), 8)
        self.as_by_numbers(MULTIPLYING, with_powers(p2=3, p3=4), 60)
        self.as_by_numbers(PRIME_TELLING, with_powers(p2=1), 120)

    def test_adding(self):
        for one in range(12):
            for other in range(5):
                self.assertEqual(after(ADDING, with_powers(p2=one, p3=other), one), with_powers(p3=one + other))
                self.rests(one, after, ADDING, with_powers(p2=one, p3=other), one + 1)

    def test_multiplying(self):
        for one in range(8):
            for other in range(8):
                powers = with_powers(p2=one, p3=other)
                steps = len(trail(MULTIPLYING, powers, 400))
                self.assertLess(steps, 400)
                self.assertEqual(after(MULTIPLYING, powers, steps), with_powers(p5=one * other))
                self.rests(steps, after, MULTIPLYING, powers, steps + 1)

    def test_primes_told_as_powers_of_two(self):
        reached, powers = [], with_powers(p2=1)
        for many in range(1, 2001):
            powers = step(PRIME_TELLING, powers)
            if not any(powers[1:]):
                reached.append((many, powers[0]))
        self.assertEqual(reached, [(19, 2), (69, 3), (281, 5), (710, 7)])
        self.assertEqual(after(PRIME_TELLING, with_powers(p2=1), 2000), powers)

    def test_no_steps(self):
        for powers in (ONE, with_powers(p2=3), (10 ** 6,) * 10, with_powers(p5=1)):
            for program in (ADDING, MULTIPLYING, ((1, 1),)):
                self.assertEqual(told_twice(after, program, powers, 0), powers)
                self.assertEqual(told_twice(trail, program, powers, 0), [])

    def test_rest_at_once(self):
        for powers in (ONE, with_powers(p3=7), with_powers(p29=10 ** 6)):
            self.rests(0, step, ADDING, powers)
            for many in (1, 2, 1999, 2000):
                self.rests(0, after, ADDING, powers, many)
                self.assertEqual(trail(ADDING, powers, min(many, 400)), [])

    def test_rest_behind_some_steps(self):
        for twos in (1, 2, 399, 400, 1999):
            for more in (1, 2, 2000 - twos):
                self.rests(twos, after, ADDING, with_powers(p2=twos), twos + more)

    def test_rest_just_at_the_last_step(self):
        for twos in (1, 2, 400, 2000):
            self.assertEqual(after(ADDING, with_powers(p2=twos), twos), with_powers(p3=twos))

    def test_at_rest_twice_in_a_row_is_told_apart(self):
        one = refused_with(after, ADDING, with_powers(p2=3), 9)
        other = refused_with(after, ADDING, with_powers(p2=5), 9)
        self.assertEqual((one.steps, other.steps), (3, 5))

    def test_two_thousand_steps(self):
        self.assertEqual(after(ADDING, (10 ** 6,) * 10, 2000), (10 ** 6 - 2000, 10 ** 6 + 2000) + (10 ** 6,) * 8)
        self.assertEqual(after(((2 ** 39, 1),), ONE, 2000), with_powers(p2=78000))
        self.assertEqual(after(((1, 1),), with_powers(p7=7), 2000), with_powers(p7=7))

    def test_first_ones_then_the_others(self):
        for program, powers in zip(small_programs(80, seed=23), small_powers(80, seed=29)):
            many = len(trail(program, powers, 30))
            for first in range(many + 1):
                between = after(program, powers, first)
                self.assertEqual(after(program, between, many - first), after(program, powers, many))
                self.assertEqual(trail(program, powers, first) + trail(program, between, many - first),
                                 trail(program, powers, many))

    def test_what_was_told_is_handed_in_again(self):
        great = leap(((2 ** 39, 1),), ONE, 10 ** 18)
        for _ in range(5):
            great = leap(((2 ** 39, 1), (1, 1)), great, 10 ** 18)
        self.assertEqual(great, with_powers(p2=6 * 39 * 10 ** 18))
        self.assertEqual(step(ADDING, great), with_powers(p2=6 * 39 * 10 ** 18 - 1, p3=1))
        self.assertEqual(after(ADDING, great, 2000), with_powers(p2=6 * 39 * 10 ** 18 - 2000, p3=2000))
        self.assertEqual(trail(ADDING, great, 400), [0] * 400)
        self.rests(0, step, ((2, 3),), great)


class Trails(Steps):
    def test_kinds(self):
        told = told_twice(trail, MULTIPLYING, with_powers(p2=1, p3=1), 400)
        self.assertIs(told.__class__, list)
        self.assertEqual(told, walk(MULTIPLYING, with_powers(p2=1, p3=1), 400)[1])
        self.assertEqual({number.__class__ for number in told}, {int})

    def test_ends_early_or_not(self):
        for twos in (0, 1, 5, 399, 400, 401):
            for many in (0, 1, 5, 399, 400):
                self.assertEqual(trail(ADDING, with_powers(p2=twos), many), [0] * min(twos, many))

    def test_four_hundred(self):
        self.assertEqual(trail(PRIME_TELLING, with_powers(p2=1), 400), walk(PRIME_TELLING, with_powers(p2=1), 400)[1])

    def test_a_told_trail_is_the_askers_own(self):
        for many in (0, 3, 20):
            told = trail(MULTIPLYING, with_powers(p2=2, p3=2), many)
            kept = list(told)
            told.append(99)
            told[0] = 98
            self.assertEqual(trail(MULTIPLYING, with_powers(p2=2, p3=2), many), kept)
        other = trail(MULTIPLYING, ONE, 9)
        other.extend([1, 2, 3])
        self.assertEqual(trail(MULTIPLYING, ONE, 9), [])
