import unittest

from things import (ADDING, MULTIPLYING, ONE, PRIME_TELLING, refused_with, small_powers, small_programs, told_twice,
                    walk, with_powers)
from wholefract.errors import AtRest, TooMany
from wholefract.steps import after, leap, stretch

# 2^n*5 goes to and fro between 5 and 7, each stretch one step long, then 13 becomes 3 and 3 becomes 17.
TO_AND_FRO = ((7, 10), (5, 7), (3, 13), (17, 3))


class Far(unittest.TestCase):
    def rests(self, steps, call, *handed):
        refusal = refused_with(call, *handed)
        self.assertIs(refusal.__class__, AtRest)
        self.assertIs(refusal.steps.__class__, int)
        self.assertEqual(refusal.steps, steps)

    def too_many(self, *handed):
        self.assertIs(refused_with(leap, *handed).__class__, TooMany)


class Stretches(Far):
    def test_against_single_steps(self):
        ended = endless = 0
        for program, powers in zip(small_programs(1500), small_powers(1500)):
            reached, used = walk(program, powers, 60)
            if len(used) == 0:
                self.rests(0, stretch, program, powers)
                continue
            number, many, behind = told_twice(stretch, program, powers)
            self.assertEqual(number, used[0])
            same = [place == number for place in used]
            if many is None:
                endless += 1
                self.assertIsNone(behind)
                self.assertEqual(used, [number] * 60)
            elif many < 60:
                ended += 1
                self.assertEqual((number, many, behind), (number, same.index(False) if False in same else len(used),
                                                          reached[many]))
            else:
                self.assertEqual(used, [number] * 60)
        self.assertGreater(min(ended, endless), 200)

    def test_one_behind_the_other_are_the_steps(self):
        for program, powers in zip(small_programs(150, 4, 31), small_powers(150, 4, 12, 37)):
            used = walk(program, powers, 40)[1]
            reached, told = powers, []
            while len(told) < len(used):
                number, many, behind = stretch(program, reached)
                self.assertTrue(len(told) == 0 or told[-1] != number)
                told += [number] * (40 if many is None else many)
                reached = behind
            self.assertEqual(told[:40], used)

    def test_a_prime_lacks(self):
        self.assertEqual(told_twice(stretch, ADDING, with_powers(p2=5, p3=1)), (0, 5, with_powers(p3=6)))
        self.assertEqual(stretch(((1, 4),), with_powers(p2=7)), (0, 3, with_powers(p2=1)))
        self.assertEqual(stretch(((1, 4),), with_powers(p2=8)), (0, 4, ONE))
        self.assertEqual(stretch(((7, 12),), with_powers(p2=9, p3=3)), (0, 3, with_powers(p2=3, p7=3)))
        self.assertEqual(stretch(((7, 12),), with_powers(p2=5, p3=3)), (0, 2, with_powers(p2=1, p3=1, p7=2)))

    def test_one_ahead_comes_to_fit(self):
        program = ((5, 9), (3, 2))
        self.assertEqual(stretch(program, with_powers(p2=5)), (1, 2, with_powers(p2=3, p3=2)))
        self.assertEqual(stretch(((5, 27), (9, 2)), with_powers(p2=9)), (1, 2, with_powers(p2=7, p3=4)))
        self.assertEqual(stretch(((5, 27), (9, 2)), with_powers(p2=9, p3=1)), (1, 1, with_powers(p2=8, p3=3)))
        # It would fit behind ten steps, but by then there is too little of what the steps take away.
        program = ((7, 2 ** 5 * 3 ** 10), (3, 2))
        self.assertEqual(stretch(program, with_powers(p2=14)), (1, 14, with_powers(p3=14)))
        self.assertEqual(stretch(program, with_powers(p2=15)), (1, 10, with_powers(p2=5, p3=10)))
        # It lacks what the steps don't bring.
        self.assertEqual(stretch(((7, 3 * 11), (3, 2)), with_powers(p2=4)), (1, 4, with_powers(p3=4)))

    def test_the_first_of_several_that_come_to_fit(self):
        program = ((11, 3 ** 7), (13, 3 ** 5), (17, 3 ** 6), (3, 2))
        self.assertEqual(stretch(program, with_powers(p2=20)), (3, 5, with_powers(p2=15, p3=5)))
        # One behind it may fit all the while.
        self.assertEqual(stretch(((3, 2), (1, 3), (5, 1)), with_powers(p2=4, p3=4)), (0, 4, with_powers(p3=8)))

    def test_both_ends_at_once(self):
        self.assertEqual(stretch(((5, 27), (3, 2)), with_powers(p2=3)), (1, 3, with_powers(p3=3)))
        self.assertEqual(stretch(((5, 27), (3, 2)), with_powers(p2=2)), (1, 2, with_powers(p3=2)))

    def test_one_step(self):
        self.assertEqual(stretch(ADDING, with_powers(p2=1)), (0, 1, with_powers(p3=1)))
        self.assertEqual(stretch(((5, 3), (3, 2)), with_powers(p2=100)), (1, 1, with_powers(p2=99, p3=1)))
        self.assertEqual(stretch(TO_AND_FRO, with_powers(p2=9, p5=1)), (0, 1, with_powers(p2=8, p7=1)))

    def test_never(self):
        for program in (((1, 1),), ((2, 1),), ((6, 1), (1, 2)), ((5, 7), (2, 1)), ((5, 7), (1, 1)),
                        ((5, 14), (2, 1)), ((1, 1), (1, 1))):
            place = 1 if program[0][0] == 5 else 0
            self.assertEqual(told_twice(stretch, program, ONE), (place, None, None))
            self.assertEqual(stretch(program, with_powers(p2=10 ** 6)), (place, None, None))

    def test_nothing_below_but_one_ahead(self):
        self.assertEqual(stretch(((5, 2 ** 30), (4, 1)), with_powers(p2=1)), (1, 15, with_powers(p2=31)))
        self.assertEqual(stretch(((5, 2 ** 30), (4, 1)), ONE), (1, 15, with_powers(p2=30)))
        self.assertEqual(stretch(((1, 6), (2, 1), (3, 1)), ONE), (1, None, None))
        self.assertEqual(stretch(((1, 6), (2, 1), (3, 1)), with_powers(p3=1)), (1, 1, with_powers(p2=1, p3=1)))

    def test_powers_of_ten_to_the_six(self):
        great = 10 ** 6
        self.assertEqual(stretch(ADDING, (great,) * 10), (0, great, (0, 2 * great) + (great,) * 8))
        self.assertEqual(stretch(((5, 2 ** 3),), with_powers(p2=great)), (0, 333333, with_powers(p2=1, p5=333333)))
        self.assertEqual(stretch(((7, 3 ** 25), (3, 2)), with_powers(p2=great)),
                         (1, 25, with_powers(p2=great - 25, p3=25)))
        self.assertEqual(stretch(((7, 11), (3, 2 * 5)), (great, 0, great - 1) + (0,) * 7),
                         (1, great - 1, with_powers(p2=1, p3=great - 1)))

    def test_like_fractions(self):
        self.assertEqual(stretch(((3, 2), (3, 2)), with_powers(p2=4)), (0, 4, with_powers(p3=4)))
        self.assertEqual(stretch(((5, 7), (3, 2), (3, 2)), with_powers(p2=4)), (1, 4, with_powers(p3=4)))
        self.assertEqual(stretch(((5, 3), (3, 2), (5, 3)), with_powers(p2=4)), (1, 1, with_powers(p2=3, p3=1)))

    def test_at_rest(self):
        for powers in (ONE, with_powers(p3=10 ** 6), with_powers(p29=1)):
            self.rests(0, stretch, ADDING, powers)
        self.rests(0, stretch, MULTIPLYING, with_powers(p5=4))


class Leaps(Far):
    def test_as_many_stretches_as_steps_tell(self):
        reached, used = walk(PRIME_TELLING, with_powers(p2=1), 2375)
        ends = [many for many in range(1, len(used)) if used[many] != used[many - 1]]
        last = ends[1999]
        self.assertLess(2000, last)
        for many in (1, 2, 1999, 2000, 2001, last - 1, last):
            self.assertEqual(leap(PRIME_TELLING, with_powers(p2=1), many), reached[many])
        for many in (last + 1, last + 2, 2375):
            self.too_many(PRIME_TELLING, with_powers(p2=1), many)

    def test_against_steps(self):
        for program, powers in zip(small_programs(400, seed=41), small_powers(400, seed=43)):
            reached, used = walk(program, powers, 40)
            for many in range(41):
                if many < len(reached):
                    self.assertEqual(leap(program, powers, many), reached[many])
                else:
                    self.rests(len(used), leap, program, powers, many)

    def test_the_documents_programs(self):
        # 2375 steps, the least to 2^11, are more than 2000 stretches; in two leaps they can be gone.
        between = told_twice(leap, PRIME_TELLING, with_powers(p2=1), 1000)
        self.assertEqual(told_twice(leap, PRIME_TELLING, between, 1375), with_powers(p2=11))
        for many in range(0, 2001, 97):
            self.assertEqual(leap(PRIME_TELLING, with_powers(p2=1), many),
                             after(PRIME_TELLING, with_powers(p2=1), many))
        self.rests(46, leap, MULTIPLYING, with_powers(p2=3, p3=4), 10 ** 18)
        self.assertEqual(leap(MULTIPLYING, with_powers(p2=3, p3=4), 46), with_powers(p5=12))

    def test_two_are_one_of_both_together(self):
        for program, powers in zip(small_programs(60, seed=47), small_powers(60, greatest=10 ** 6, seed=53)):
            for first, other in ((0, 5), (7, 0), (3, 400), (10 ** 5, 10 ** 4), (333333, 777777)):
                try:
                    together = leap(program, powers, first + other)
                except (AtRest, TooMany):
                    continue
                self.assertEqual(leap(program, leap(program, powers, first), other), together)
        great = leap(((2, 1),), ONE, 10 ** 18)
        self.assertEqual(leap(((2, 1),), great, 10 ** 18), with_powers(p2=2 * 10 ** 18))

    def test_rest_far_on_is_the_same_from_between(self):
        program = ((3, 2), (5 ** 2, 3), (7, 5))
        powers = with_powers(p2=10 ** 6)
        self.rests(4 * 10 ** 6, leap, program, powers, 10 ** 18)
        self.assertEqual(leap(program, powers, 4 * 10 ** 6), with_powers(p7=2 * 10 ** 6))
        self.rests(4 * 10 ** 6 - 12345, leap, program, leap(program, powers, 12345), 10 ** 18)
        self.rests(4 * 10 ** 6, leap, program, powers, 4 * 10 ** 6 + 1)

    def test_no_steps(self):
        for powers in (ONE, with_powers(p2=3), (10 ** 6,) * 10):
            for program in (ADDING, MULTIPLYING, ((1, 1),)):
                self.assertEqual(told_twice(leap, program, powers, 0), powers)

    def test_without_an_end(self):
        far = 10 ** 18
        self.assertEqual(told_twice(leap, ((2, 1),), ONE, far), with_powers(p2=far))
        self.assertEqual(leap(((1, 1),), with_powers(p5=3), far), with_powers(p5=3))
        self.assertEqual(leap(((2 ** 39, 1),), with_powers(p2=1), far), with_powers(p2=39 * far + 1))
        self.assertEqual(leap(((3, 2), (35, 1)), with_powers(p2=10 ** 6), far),
                         with_powers(p3=10 ** 6, p5=far - 10 ** 6, p7=far - 10 ** 6))

    def test_rest_far_on(self):
        self.rests(10 ** 6, leap, ADDING, with_powers(p2=10 ** 6), 10 ** 18)
        self.rests(10 ** 6, leap, ADDING, with_powers(p2=10 ** 6), 10 ** 6 + 1)
        self.assertEqual(leap(ADDING, with_powers(p2=10 ** 6), 10 ** 6), with_powers(p3=10 ** 6))
        program = ((3 ** 25, 2), (5 ** 17, 3), (7 ** 14, 5))
        steps = 10 ** 6 * (1 + 25 + 25 * 17)
        self.assertEqual(leap(program, with_powers(p2=10 ** 6), steps), with_powers(p7=14 * 25 * 17 * 10 ** 6))
        self.rests(steps, leap, program, with_powers(p2=10 ** 6), 10 ** 18)
        great = leap(((2, 1),), ONE, 10 ** 18 - 1)
        self.rests(10 ** 18 - 1, leap, ADDING, great, 10 ** 18)
        self.assertEqual(leap(ADDING, great, 10 ** 18 - 1), with_powers(p3=10 ** 18 - 1))

    def test_rest_at_once(self):
        for many in (1, 2, 10 ** 18):
            self.rests(0, leap, ADDING, with_powers(p3=5), many)

    def test_just_two_thousand_stretches(self):
        powers = with_powers(p2=1000, p5=1, p13=50)
        self.assertEqual(told_twice(leap, TO_AND_FRO, powers, 2000), with_powers(p5=1, p13=50))
        self.assertEqual(leap(TO_AND_FRO, powers, 1999), with_powers(p7=1, p13=50))
        for many in (2001, 2002, 2050, 2051, 10 ** 18):
            self.too_many(TO_AND_FRO, powers, many)

    def test_the_last_one_whole_and_not_whole(self):
        powers = with_powers(p2=999, p7=1, p13=50)
        self.assertEqual(leap(TO_AND_FRO, powers, 1999), with_powers(p5=1, p13=50))
        for many in (1, 2, 20, 49, 50):
            # The stretches of 17/3 come behind all of 3/13, so up to there it is the two thousandth.
            self.assertEqual(leap(TO_AND_FRO, powers, 1999 + many), with_powers(p3=many, p5=1, p13=50 - many))
        for many in (51, 52, 100, 101, 10 ** 6, 10 ** 18 - 1999):
            self.too_many(TO_AND_FRO, powers, 1999 + many)

    def test_two_thousand_and_one(self):
        powers = with_powers(p2=1000, p7=1, p13=50)
        self.assertEqual(leap(TO_AND_FRO, powers, 2000), with_powers(p7=1, p13=50))
        self.too_many(TO_AND_FRO, powers, 2001)
        self.too_many(TO_AND_FRO, powers, 10 ** 18)

    def test_the_last_one_without_an_end(self):
        program = ((7, 10), (5, 7), (3, 1))
        self.assertEqual(leap(program, with_powers(p2=999, p7=1), 10 ** 18), with_powers(p3=10 ** 18 - 1999, p5=1))
        self.too_many(program, with_powers(p2=1000, p5=1), 10 ** 18)

    def test_rest_just_behind_the_last(self):
        powers = with_powers(p2=1000, p5=1)
        for many in (2001, 2002, 10 ** 18):
            self.rests(2000, leap, TO_AND_FRO, powers, many)
        self.assertEqual(leap(TO_AND_FRO, powers, 2000), with_powers(p5=1))
        self.rests(1999, leap, TO_AND_FRO, with_powers(p2=999, p7=1), 10 ** 18)
        self.too_many(TO_AND_FRO, with_powers(p2=1000, p7=1), 10 ** 18)
        # The two thousandth stretch is long, and nothing fits behind it.
        self.rests(1999 + 50, leap, TO_AND_FRO[:3], with_powers(p2=999, p7=1, p13=50), 10 ** 18)

    def test_never_ending_to_and_fro(self):
        self.too_many(((3, 2), (2, 3)), with_powers(p2=1), 10 ** 18)
        self.assertEqual(leap(((3, 2), (2, 3)), with_powers(p2=1), 1999), with_powers(p3=1))
        self.assertEqual(leap(((3, 2), (2, 3)), with_powers(p2=1), 2000), with_powers(p2=1))
        self.too_many(((3, 2), (2, 3)), with_powers(p2=1), 2001)
