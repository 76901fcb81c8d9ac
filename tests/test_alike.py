import random
import unittest

from things import (ADDING, ALL_GO, EXCHANGING, MULTIPLYING, PRIME_TELLING, SIXTEEN, TEN, box, factored,
                    first_by_number, next_by_number, product, same, small_fraction, small_powers, some_programs,
                    told_twice)
from wholefract.alike import idle, unlike_at, without_idle
from wholefract.errors import AtRest
from wholefract.programs import is_powers, is_program
from wholefract.steps import first_fit, step

# No bottom of three primes here has one more than twice, so all that can happen happens below 3; one more is tried.
SMALL = box((4, 4, 4))
NUMBERS = [product(powers) for powers in SMALL]


def of_each_length(each, seed):
    """Programs of one to sixteen fractions of three primes, many of them with like and with idle fractions."""
    chance = random.Random(seed)
    for many in range(1, 17):
        for _ in range(each):
            program = [small_fraction(chance, 3, (0, 0, 1, 1, 2)) for _ in range(many)]
            if chance.random() < 0.3:
                program[chance.randrange(many)] = (1, 1)
            if chance.random() < 0.3:
                program[chance.randrange(many)] = chance.choice(program)
            yield tuple(program)


def used_somewhere(program):
    return {first_by_number(program, number) for number in NUMBERS}


def next_numbers(program):
    told = []
    for number in NUMBERS:
        place = first_by_number(program, number)
        told.append(None if place is None else number * program[place][0] // program[place][1])
    return told


class Idle(unittest.TestCase):
    def idle_are(self, program, numbers):
        told = told_twice(idle, program)
        self.assertTrue(same(told, numbers), (program, told, numbers))
        left = tuple(fraction for place, fraction in enumerate(program) if place not in numbers)
        self.assertTrue(same(told_twice(without_idle, program), left))

    def test_against_all_small_powers(self):
        some = none = 0
        for program in of_each_length(14, 3):
            used = used_somewhere(program)
            unused = [place for place in range(len(program)) if place not in used]
            self.idle_are(program, unused)
            some += len(unused) > 0
            none += len(unused) == 0
        self.assertGreater(some, 100)
        self.assertGreater(none, 20)

    def test_like_fractions(self):
        for many in range(1, 17):
            self.idle_are(((3, 2),) * many, list(range(1, many)))
            self.idle_are(((1, 1),) * many, list(range(1, many)))
        self.idle_are(((3, 2), (5, 7), (3, 2), (5, 7)), [2, 3])
        self.idle_are(((3, 2), (5, 2)), [1])

    def test_a_bottom_that_one_ahead_divides(self):
        self.idle_are(((3, 2), (3, 4)), [1])
        self.idle_are(((3, 4), (3, 2)), [])
        self.idle_are(((5, 6), (7, 3), (7, 12), (1, 9)), [2, 3])
        self.idle_are(((1, 2 ** 38), (1, 2 ** 39), (1, 2 ** 37)), [1])
        self.idle_are(((1, 6), (1, 10), (1, 15), (1, 30)), [3])
        # Together the bottoms ahead hold all of 6, but none of them divides it.
        self.idle_are(((1, 4), (1, 9), (1, 6)), [])

    def test_nothing_below(self):
        for still in ((1, 1), (6, 1), (2 ** 39, 1)):
            self.idle_are((still,), [])
            self.idle_are((still, (3, 2), (1, 7)), [1, 2])
            self.idle_are(((3, 2), still, (1, 7)), [2])
            self.idle_are(((3, 2), (1, 7), still), [])
            self.idle_are(((3, 2), still, (1, 7), still), [2, 3])
            for place in range(16):
                program = ((1, 29),) * place + (still,) + ((1, 29),) * (15 - place)
                self.idle_are(program, [number for number in range(1, 16) if number != place])

    def test_none_is_idle(self):
        for program in (ADDING, MULTIPLYING, PRIME_TELLING, EXCHANGING, ALL_GO, ((1, 1),), ((1, 8), (1, 4), (1, 2)),
                        tuple((1, 2 ** often) for often in range(16, 0, -1))):
            self.idle_are(program, [])
        self.idle_are(SIXTEEN, [14, 15])

    def test_never_missed(self):
        for program in some_programs():
            left = without_idle(program)
            self.assertTrue(is_program(left))
            self.assertEqual(idle(left), [])
            for powers in list(small_powers(6, 10, 3)) + [factored(bottom) for _, bottom in program]:
                self.assertEqual(next_by_number(left, powers), next_by_number(program, powers))
                self.assertEqual(first_fit(left, powers) is None, first_fit(program, powers) is None)

    def test_each_of_the_told_and_of_the_others(self):
        for program in some_programs():
            told = idle(program)
            for number, (_, bottom) in enumerate(program):
                # The least powers that a fraction fits are those of its bottom.
                self.assertEqual(first_by_number(program, bottom) == number, number not in told)

    def test_a_told_list_is_the_askers_own(self):
        for program in (((3, 2), (3, 2)), ADDING):
            told = idle(program)
            expected = list(told)
            told.append(0)
            told[0] = None
            self.assertEqual(idle(program), expected)


class UnlikeAt(unittest.TestCase):
    def next_of(self, program, powers):
        try:
            return step(program, powers)
        except AtRest:
            return None

    def alike(self, one, other):
        for first, second in ((one, other), (other, one)):
            self.assertIsNone(told_twice(unlike_at, first, second), (first, second))

    def unlike(self, one, other):
        for first, second in ((one, other), (other, one)):
            told = told_twice(unlike_at, first, second)
            self.assertTrue(is_powers(told), (first, second))
            self.assertNotEqual(self.next_of(first, told), self.next_of(second, told))
            self.assertNotEqual(next_by_number(first, told), next_by_number(second, told))
        return told

    def as_small_powers_go(self, one, other):
        if next_numbers(one) == next_numbers(other):
            self.alike(one, other)
            return True
        self.unlike(one, other)
        return False

    def all_as_small_powers_go(self, pairs):
        told = [self.as_small_powers_go(one, other) for one, other in pairs]
        self.assertGreater(told.count(True), 100)
        self.assertGreater(told.count(False), 100)

    def test_itself(self):
        for program in some_programs():
            self.alike(program, program)
            self.alike(program, tuple(list(program)))

    def test_without_its_idle_ones(self):
        for program in some_programs():
            self.alike(program, without_idle(program))
        for program in of_each_length(3, 5):
            self.assertTrue(self.as_small_powers_go(program, without_idle(program)))

    def test_exchanged_that_never_fit_together(self):
        # Where both would fit, the first one of all does.
        self.alike(((1, 6), (5, 2), (7, 3)), ((1, 6), (7, 3), (5, 2)))
        self.alike(((11, 1), (5, 2), (7, 3)), ((11, 1), (7, 3), (5, 2)))
        self.alike(((1, 12), (5, 4), (7, 3)), ((1, 12), (7, 3), (5, 4)))
        self.alike(((1, 2), (1, 3), (5, 14), (5, 21)), ((1, 2), (1, 3), (5, 21), (5, 14)))
        self.unlike(((1, 12), (5, 2), (7, 3)), ((1, 12), (7, 3), (5, 2)))
        self.unlike(((5, 2), (7, 3)), ((7, 3), (5, 2)))
        self.unlike(((5, 2), (7, 3), (1, 6)), ((7, 3), (5, 2), (1, 6)))

    def test_neighbours_exchanged(self):
        pairs = []
        for program in of_each_length(6, 7):
            for place in range(len(program) - 1):
                pairs.append((program, program[:place] + program[place:place + 2][::-1] + program[place + 2:]))
        self.all_as_small_powers_go(pairs)

    def test_like_fractions(self):
        self.alike(((3, 2),) * 16, ADDING)
        self.alike(((3, 2), (1, 7), (3, 2)), ((3, 2), (1, 7)))
        self.alike(((3, 4), (3, 4), (1, 2)), ((3, 4), (1, 2)))
        self.unlike(((1, 7), (3, 2), (1, 7)), ((3, 2), (1, 7)))
        # Where both fit, another one goes first.
        self.unlike(((3, 2), (1, 7), (3, 2)), ((1, 7), (3, 2)))
        for program in of_each_length(2, 11):
            if len(program) <= 8:
                self.alike(program, program + program)
                self.alike(program, program + program[::-1])

    def test_one_fraction_changed_left_out_or_put_in(self):
        chance = random.Random(13)
        pairs = []
        for program in of_each_length(2, 17):
            for place in range(len(program)):
                fraction = small_fraction(chance, 3, (0, 0, 1, 1, 2))
                others = [program[:place] + (fraction,) + program[place + 1:]]
                if len(program) > 1:
                    others.append(program[:place] + program[place + 1:])
                if len(program) < 16:
                    others.append(program[:place] + (fraction,) + program[place:])
                    others.append(program + (fraction,))
                pairs += [(program, other) for other in others]
        self.all_as_small_powers_go(pairs)

    def test_a_top_changed(self):
        for program in some_programs():
            used = without_idle(program)
            for place, (top, bottom) in enumerate(used):
                free = [prime for prime in TEN if bottom % prime > 0 and prime != top]
                for other in [1] * (top > 1) + free[-1:]:
                    self.unlike(used, used[:place] + ((other, bottom),) + used[place + 1:])

    def test_any_two(self):
        drawn = list(of_each_length(8, 19))
        pairs = list(zip(drawn, drawn[1:]))
        pairs += [(one, other) for one in of_each_length(1, 23) for other in of_each_length(1, 29)]
        unlike = sum(not self.as_small_powers_go(one, other) for one, other in pairs)
        self.assertGreater(unlike, 300)

    def test_nothing_to_do_is_no_rest(self):
        told = self.unlike(((3, 2), (1, 1)), ADDING)
        self.assertIsNone(next_by_number(ADDING, told))
        self.assertEqual(step(((3, 2), (1, 1)), told), told)
        for program in of_each_length(4, 31):
            if len(program) < 16:
                self.as_small_powers_go(program, program + ((1, 1),))
                if None in used_somewhere(program):
                    told = self.unlike(program, program + ((1, 1),))
                    self.assertIsNone(next_by_number(program, told))
                else:
                    self.alike(program, program + ((1, 1),))
        self.unlike(((1, 1),), ADDING)
        self.alike(((1, 1),), ((1, 1), (3, 2)))

    def test_only_where_two_great_bottoms_both_fit(self):
        for one, other in ((2 ** 39, 3 ** 25), (29 ** 8, 23 ** 8), (10 ** 12, 3 ** 25), (10 ** 12, 21 ** 9)):
            told = self.unlike(((11, one), (1, other)), ((1, other), (11, one)))
            self.assertEqual((product(told) % one, product(told) % other), (0, 0))

    def test_one_ahead_takes_all_that_both_fit(self):
        one, other = (5, 2 ** 19), (7, 3 ** 12)
        ahead = ((1, 2 ** 19 * 3 ** 12),)
        self.alike(ahead + (one, other), ahead + (other, one))
        # It wants one more of some prime: just where there is one less of it, both are left.
        for more in (2 ** 20 * 3 ** 12, 2 ** 19 * 3 ** 13):
            ahead = ((1, more),)
            told = self.unlike(ahead + (one, other), ahead + (other, one))
            self.assertNotEqual(product(told) % more, 0)
            self.assertEqual(product(told) % (2 ** 19 * 3 ** 12), 0)

    def test_only_at_the_least_that_both_fit(self):
        # Both bottoms have one prime in common; with one more of it than either wants, the first fraction takes all.
        for prime in TEN[:8]:
            one, other = (1, 23 * prime), (1, 29 * prime)
            for ahead in (((1, prime ** 2),), ((1, prime ** 2), (1, 23 ** 2), (1, 29 ** 2))):
                told = self.unlike(ahead + (one, other), ahead + (other, one))
                self.assertEqual(product(told) % (23 * 29 * prime), 0)
                self.assertNotEqual(product(told) % prime ** 2, 0)
        told = self.unlike(((1, 4), (7, 6), (11, 10)), ((1, 4), (11, 10), (7, 6)))
        self.assertEqual(product(told) % 60, 30)

    def test_only_at_great_powers(self):
        for bottom in (10 ** 12, 2 ** 39, 29 ** 8, 3 ** 25):
            top = 7 if bottom % 7 else 11
            told = self.unlike(((1, bottom),), ((top, bottom),))
            self.assertEqual(product(told) % bottom, 0)
            told = self.unlike(((1, 7), (1, bottom)), ((1, 7),))
            self.assertEqual(product(told) % bottom, 0)
        # The last fraction alone is otherwise, and all others want only one less of some prime.
        near = tuple((1, 2 ** 39 // 2 ** less) for less in range(0, 15))
        self.unlike(near + ((3, 2),), near + ((5, 2),))
        self.unlike(near + ((3, 2 ** 20),), near + ((3, 2 ** 19),))
        self.alike(near + ((3, 2 ** 39),), near)

    def test_ten_primes(self):
        self.unlike(ALL_GO, ALL_GO[::-1])
        self.alike(ALL_GO + ((1, 1),), ALL_GO + ((1, 1), (1, 1)))
        self.unlike(ALL_GO, ALL_GO[:-1])
        for place in range(9):
            exchanged = ALL_GO[:place] + (ALL_GO[place + 1], ALL_GO[place]) + ALL_GO[place + 2:]
            told = self.unlike(ALL_GO, exchanged)
            self.assertTrue(told[place] > 0 and told[place + 1] > 0)
        self.alike(ALL_GO + ((7, 10),), ALL_GO)
        self.alike(SIXTEEN, PRIME_TELLING)
        self.unlike(PRIME_TELLING, PRIME_TELLING[:-1])
        self.unlike(MULTIPLYING, MULTIPLYING[::-1])

    def test_of_the_kind_it_says(self):
        for one, other in ((ADDING, ((5, 2),)), (((1, 1),), ((2, 1),)), (MULTIPLYING, PRIME_TELLING), (ADDING, ALL_GO)):
            told = self.unlike(one, other)
            self.assertIs(told.__class__, tuple)
            self.assertEqual([part.__class__ for part in told], [int] * 10)
