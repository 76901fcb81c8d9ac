import random
import unittest

from things import (ADDING, ALL_GO, EXCHANGING, MULTIPLYING, ONE, PRIME_TELLING, SIXTEEN, TEN, factored,
                    first_by_number, next_by_number, of_every_kind, product, refusal_of, same, small_powers,
                    small_programs, some_programs, told_twice, with_powers)
from wholefract.errors import AtRest, NoOrder, Shared, TooMany
from wholefract.named import joined, powers_renamed, primes_in, renamed
from wholefract.programs import is_powers, is_program
from wholefract.steps import after, first_fit, leap, step

UNCHANGED = tuple(range(10))
TURNED = UNCHANGED[::-1]
# The second prime and the third one exchanged.
THREE_FOR_FIVE = (0, 2, 1, 3, 4, 5, 6, 7, 8, 9)
# The ninth and the tenth.
LAST_TWO = (0, 1, 2, 3, 4, 5, 6, 7, 9, 8)
# Each prime goes one place on, and one place back.
ONWARD = (9, 0, 1, 2, 3, 4, 5, 6, 7, 8)
BACK = (1, 2, 3, 4, 5, 6, 7, 8, 9, 0)
# The least number above 10 ** 12 of the ten primes alone, and the one that it comes of with 23 in the place of 29.
JUST_MORE = 2 ** 3 * 3 ** 3 * 5 ** 2 * 7 ** 2 * 19 ** 4 * 29
COMES_TO_MORE = JUST_MORE // 29 * 23


def some_orders(many, seed):
    chance = random.Random(seed)
    yield from (UNCHANGED, TURNED, THREE_FOR_FIVE, LAST_TWO, ONWARD, BACK)
    for _ in range(many):
        yield tuple(chance.sample(range(10), 10))


def undoing(order):
    return tuple(order.index(place) for place in range(10))


def fraction_by_the_words(fraction, order):
    told = []
    for number in fraction:
        powers = factored(number)
        told.append(product([powers[order[place]] for place in range(10)]))
    return tuple(told)


def no_orders():
    """What is no order, of every kind."""
    chance = random.Random(47)
    yield from of_every_kind()
    yield from (UNCHANGED[:9], UNCHANGED[1:], UNCHANGED + (10,), UNCHANGED + (9,), UNCHANGED + (0,), (),
                (-1,) + UNCHANGED, UNCHANGED * 2, UNCHANGED + (None,))
    for order in some_orders(4, 53):
        for place in range(10):
            for wrong in (-1, 10, 11, -10, 10 ** 59, -10 ** 59, None, "", str(order[place]), [order[place]],
                          (order[place],), {}, [], order[(place + 1) % 10]):
                yield order[:place] + (wrong,) + order[place + 1:]
        yield list(order)
        yield tuple(str(number) for number in order)
        yield "".join(map(str, order))
        yield dict(enumerate(order))
        yield {order: order}
        yield (order,)
        yield [order]
        yield (order, order)
        yield tuple(-number for number in order)
        yield tuple(number + 1 for number in order)
        # By == alone these would be orders.
        yield tuple(bool(number) if number < 2 else number for number in order)
        yield tuple(False if number == 0 else number for number in order)
        yield tuple(True if number == 1 else number for number in order)
        twice = list(order)
        twice[chance.randrange(5)] = twice[5 + chance.randrange(5)]
        yield tuple(twice)


class PowersRenamed(unittest.TestCase):
    def test_at_each_place_the_one_that_stood_there(self):
        for order in some_orders(60, 3):
            for powers in small_powers(12, 10, 10 ** 6, 5):
                told = told_twice(powers_renamed, powers, order)
                self.assertTrue(same(told, tuple(powers[order[place]] for place in range(10))))
                self.assertTrue(is_powers(told))

    def test_written_out(self):
        powers = (10, 11, 12, 13, 14, 15, 16, 17, 18, 19)
        self.assertEqual(powers_renamed(powers, UNCHANGED), powers)
        self.assertEqual(powers_renamed(powers, TURNED), powers[::-1])
        self.assertEqual(powers_renamed(powers, ONWARD), (19, 10, 11, 12, 13, 14, 15, 16, 17, 18))
        self.assertEqual(powers_renamed(powers, BACK), (11, 12, 13, 14, 15, 16, 17, 18, 19, 10))
        self.assertEqual(powers_renamed(with_powers(p2=1), ONWARD), with_powers(p3=1))
        self.assertEqual(powers_renamed(with_powers(p2=1), BACK), with_powers(p29=1))
        self.assertEqual(powers_renamed(with_powers(p2=3, p3=4), THREE_FOR_FIVE), with_powers(p2=3, p5=4))

    def test_and_back(self):
        for order in some_orders(60, 7):
            for powers in small_powers(6, 10, 9, 11):
                self.assertEqual(powers_renamed(powers_renamed(powers, order), undoing(order)), powers)
                self.assertEqual(powers_renamed(powers_renamed(powers, undoing(order)), order), powers)

    def test_however_great(self):
        far = leap(((2 ** 39, 1),), ONE, 10 ** 18)
        self.assertEqual(powers_renamed(far, ONWARD), with_powers(p3=39 * 10 ** 18))
        great = tuple(10 ** 59 + place for place in range(10))
        for order in some_orders(6, 13):
            self.assertEqual(powers_renamed(great, order), tuple(10 ** 59 + place for place in order))

    def test_what_is_no_order(self):
        for thing in no_orders():
            for powers in (ONE, (10 ** 6,) * 10, UNCHANGED):
                self.assertIs(refusal_of(powers_renamed, powers, thing), NoOrder, repr(thing)[:200])


class Renamed(unittest.TestCase):
    def test_fraction_by_fraction(self):
        done = refused = 0
        for program in some_programs():
            for order in some_orders(3, 17):
                expected = tuple(fraction_by_the_words(fraction, order) for fraction in program)
                if max(map(max, expected)) > 10 ** 12:
                    self.assertIs(refusal_of(renamed, program, order), TooMany)
                    refused += 1
                    continue
                told = told_twice(renamed, program, order)
                self.assertTrue(same(told, expected))
                self.assertTrue(is_program(told))
                done += 1
        self.assertGreater(done, 500)
        self.assertGreater(refused, 50)

    def test_written_out(self):
        self.assertEqual(renamed(ADDING, ONWARD), ((5, 3),))
        self.assertEqual(renamed(ADDING, BACK), ((2, 29),))
        self.assertEqual(renamed(((12, 35), (1, 1), (29, 1)), ONWARD), ((45, 77), (1, 1), (2, 1)))
        self.assertEqual(renamed(((1, 1),) * 16, TURNED), ((1, 1),) * 16)
        self.assertEqual(renamed(((2, 3), (2, 3)), TURNED), ((29, 23), (29, 23)))

    def test_unchanged_and_back(self):
        for program in some_programs():
            self.assertEqual(renamed(program, UNCHANGED), program)
        for program in small_programs(60, 4, 19):
            for order in some_orders(5, 23):
                if refusal_of(renamed, program, order) is None:
                    self.assertEqual(renamed(renamed(program, order), undoing(order)), program)

    def test_a_step_named_anew(self):
        steps = rests = 0
        for program, powers in zip(small_programs(200, 4, 29), small_powers(200, 4, 5, 31)):
            for order in some_orders(2, 37):
                if refusal_of(renamed, program, order) is not None:
                    continue
                named, begin = renamed(program, order), powers_renamed(powers, order)
                self.assertEqual(first_fit(named, begin), first_fit(program, powers))
                if first_fit(program, powers) is None:
                    self.assertIs(refusal_of(step, named, begin), AtRest)
                    rests += 1
                else:
                    self.assertEqual(step(named, begin), powers_renamed(step(program, powers), order))
                    steps += 1
        self.assertGreater(steps, 500)
        self.assertGreater(rests, 50)

    def test_just_ten_to_the_twelve_and_more(self):
        just = 6 ** 12
        for top, bottom in ((just, 1), (1, just), (just, 7), (7, just)):
            told = told_twice(renamed, ((top, bottom),), THREE_FOR_FIVE)
            self.assertEqual(told, ((10 ** 12 if top == just else top, 10 ** 12 if bottom == just else bottom),))
            self.assertEqual(renamed(told, THREE_FOR_FIVE), ((top, bottom),))
        self.assertGreater(JUST_MORE, 10 ** 12)
        for fraction in ((COMES_TO_MORE, 1), (1, COMES_TO_MORE), (11, COMES_TO_MORE), (COMES_TO_MORE, 11)):
            self.assertTrue(is_program((fraction,)))
            self.assertIs(refusal_of(renamed, (fraction,), LAST_TWO), TooMany)
            self.assertEqual(renamed((fraction,), UNCHANGED), (fraction,))

    def test_far_more(self):
        for order in (TURNED, ONWARD, (9, 1, 2, 3, 4, 5, 6, 7, 8, 0)):
            for fraction in ((2 ** 39, 1), (1, 2 ** 39), (2 ** 39, 3 ** 25), (3 ** 25, 2 ** 39)):
                self.assertIs(refusal_of(renamed, (fraction,), order), TooMany)

    def test_each_fraction_counts(self):
        for many in (1, 2, 7, 16):
            for place in range(many):
                for great in ((COMES_TO_MORE, 1), (1, COMES_TO_MORE)):
                    program = ((3, 2),) * place + (great,) + ((3, 2),) * (many - place - 1)
                    self.assertIs(refusal_of(renamed, program, LAST_TWO), TooMany)

    def test_what_is_no_order_ahead_of_too_many(self):
        for thing in no_orders():
            for program in (ADDING, ((2 ** 39, 1),), ((1, 1),), ((COMES_TO_MORE, 1),) * 16):
                self.assertIs(refusal_of(renamed, program, thing), NoOrder, repr(thing)[:200])


class PrimesIn(unittest.TestCase):
    def test_against_the_words(self):
        for program in some_programs():
            told = told_twice(primes_in, program)
            expected = [prime for prime in TEN if any(top * bottom % prime == 0 for top, bottom in program)]
            self.assertTrue(same(told, tuple(expected)))

    def test_written_out(self):
        self.assertEqual(primes_in(((1, 1),)), ())
        self.assertEqual(primes_in(((1, 1),) * 16), ())
        self.assertEqual(primes_in(ALL_GO), TEN)
        self.assertEqual(primes_in(ALL_GO[::-1]), TEN)
        self.assertEqual(primes_in(((2 * 3 * 5 * 7 * 11, 13 * 17 * 19 * 23 * 29),)), TEN)
        self.assertEqual(primes_in(ADDING), (2, 3))
        self.assertEqual(primes_in(MULTIPLYING), (2, 3, 5, 7, 11, 13))
        self.assertEqual(primes_in(EXCHANGING), (2, 3, 5, 7, 11, 13))
        for prime in TEN:
            for fraction in ((prime, 1), (1, prime), (prime ** 8, 1), (1, prime ** 8)):
                self.assertEqual(primes_in((fraction,)), (prime,))
                self.assertEqual(primes_in(((1, 1), fraction)), (prime,))

    def test_named_anew(self):
        for program in small_programs(100, 6, 41):
            for order in some_orders(2, 43):
                if refusal_of(renamed, program, order) is None:
                    expected = [TEN[place] for place in range(10) if TEN[order[place]] in primes_in(program)]
                    self.assertEqual(primes_in(renamed(program, order)), tuple(expected))


def apart(many, seed):
    """Two programs each of which no prime is in the other one, and powers of all these primes."""
    programs = list(small_programs(2 * many, 3, seed))
    for one, other, powers in zip(programs[::2], programs[1::2], small_powers(many, 10, 1, seed + 1)):
        # 2, 3, 5 become 7, 11, 13.
        other = tuple(fraction_by_the_words(fraction, (3, 4, 5, 0, 1, 2, 6, 7, 8, 9)) for fraction in other)
        if is_program(other):
            yield one, other, powers


class Joined(unittest.TestCase):
    def test_one_behind_the_other(self):
        for one, other, _ in apart(100, 59):
            told = told_twice(joined, one, other)
            self.assertTrue(same(told, one + other))
            self.assertTrue(is_program(told))
            self.assertEqual(joined(other, one), other + one)
            self.assertEqual(primes_in(told), tuple(sorted(primes_in(one) + primes_in(other))))

    def test_powers_that_rest_by_the_one_go_on_by_the_other(self):
        on = rest = 0
        for one, other, powers in apart(900, 61):
            together = joined(one, other)
            if first_fit(one, powers) is not None:
                self.assertEqual(step(together, powers), step(one, powers))
            elif first_fit(other, powers) is not None:
                reached = step(together, powers)
                self.assertEqual(reached, step(other, powers))
                self.assertIsNone(first_fit(one, reached))
                on += 1
            else:
                self.assertIs(refusal_of(step, together, powers), AtRest)
                rest += 1
            goes = other if first_by_number(one, product(powers)) is None else one
            self.assertEqual(next_by_number(together, powers), next_by_number(goes, powers))
        self.assertGreater(on, 30)
        self.assertGreater(rest, 10)

    def test_first_what_the_one_does_then_what_the_other_does(self):
        for twos in range(6):
            for sevens in range(6):
                begin = with_powers(p2=twos, p7=sevens)
                told = after(joined(ADDING, ((11, 7),)), begin, twos + sevens)
                self.assertEqual(told, with_powers(p3=twos, p11=sevens))

    def test_a_prime_in_common(self):
        for prime in TEN:
            for one in ((prime, 1), (1, prime)):
                for other in ((prime, 1), (1, prime), (prime ** 2, 1), (1, prime ** 8)):
                    self.assertIs(refusal_of(joined, (one,), (other,)), Shared)
                    self.assertIs(refusal_of(joined, (one, (1, 1)), ((1, 1), other)), Shared)
        for program in some_programs():
            if any(max(fraction) > 1 for fraction in program):
                self.assertIs(refusal_of(joined, program, program), Shared)
                self.assertIs(refusal_of(joined, program, program[::-1]), Shared)

    def test_nothing_in_common_with_what_has_no_prime(self):
        self.assertEqual(joined(((1, 1),), ((1, 1),)), ((1, 1), (1, 1)))
        self.assertEqual(joined(((1, 1),), ADDING), ((1, 1), (3, 2)))
        self.assertEqual(joined(ADDING, ((1, 1),)), ((3, 2), (1, 1)))

    def test_sixteen_and_seventeen(self):
        for many in range(1, 16):
            one, other = ((3, 2),) * many, ((7, 5),) * (16 - many)
            self.assertEqual(told_twice(joined, one, other), one + other)
            self.assertIs(refusal_of(joined, one, other + ((5, 7),)), TooMany)
            self.assertIs(refusal_of(joined, one + ((2, 3),), other), TooMany)
        self.assertIs(refusal_of(joined, ((3, 2),) * 16, ((7, 5),) * 16), TooMany)
        self.assertIs(refusal_of(joined, ((1, 1),) * 16, ((1, 1),)), TooMany)

    def test_shared_ahead_of_too_many(self):
        for one, other in ((16, 1), (1, 16), (16, 16), (9, 8)):
            self.assertIs(refusal_of(joined, ((3, 2),) * one, ((3, 5),) * other), Shared)
            self.assertIs(refusal_of(joined, ((7, 5),) * (one - 1) + ((1, 2),), ((2, 11),) * other), Shared)
        self.assertIs(refusal_of(joined, SIXTEEN, PRIME_TELLING), Shared)
