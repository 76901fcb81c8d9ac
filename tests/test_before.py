import unittest

from things import (ADDING, MULTIPLYING, ONE, PRIME_TELLING, box, factored, first_by_number, product, small_powers,
                    small_programs, told_twice, with_powers)
from wholefract.before import before, many_before
from wholefract.steps import after, leap, step


def all_ahead(program, sides):
    """For all powers, which powers within the box become them by a step of the numbers."""
    found = {}
    for powers in box(sides):
        number = product(powers)
        place = first_by_number(program, number)
        if place is not None:
            top, bottom = program[place]
            found.setdefault(factored(number * top // bottom), []).append(powers)
    return found


class Before(unittest.TestCase):
    def test_against_all_small_powers(self):
        # No change of these programs is more than 3, so all that is ahead of 0 to 3 lies within 0 to 6.
        for program in small_programs(60):
            found = all_ahead(program, (7, 7, 7))
            for powers in box((4, 4, 4)):
                self.assertEqual(before(program, powers), sorted(found.get(powers, [])), (program, powers))

    def test_like_fractions(self):
        for program in small_programs(30, seed=13):
            twice = program + program[::-1]
            found = all_ahead(twice, (7, 7, 7))
            for powers in box((3, 3, 3)):
                told = before(twice, powers)
                self.assertEqual(told, sorted(found.get(powers, [])))
                self.assertEqual(len(set(told)), len(told))
        self.assertEqual(told_twice(before, ((3, 2),) * 16, with_powers(p3=1)), [with_powers(p2=1)])
        self.assertEqual(before(((1, 1),) * 3, with_powers(p3=1)), [with_powers(p3=1)])

    def test_by_a_step_just_those(self):
        for program, powers in zip(small_programs(200, 6, 17), small_powers(200, 6, 5, 19)):
            for ahead in before(program, powers):
                self.assertEqual(step(program, ahead), powers)
            try:
                reached = after(program, powers, 1)
            except ValueError:
                continue
            self.assertIn(powers, before(program, reached))

    def test_ordinary(self):
        self.assertEqual(told_twice(before, ADDING, with_powers(p2=3, p3=2)), [with_powers(p2=4, p3=1)])
        self.assertEqual(before(ADDING, with_powers(p2=3)), [])
        self.assertEqual(before(ADDING, ONE), [])
        self.assertEqual(before(((1, 2), (1, 3)), ONE), [with_powers(p3=1), with_powers(p2=1)])
        # 2 ahead of 3 is used first, so 3 times 2 does not come to 2.
        self.assertEqual(before(((1, 2), (1, 3)), with_powers(p2=1)), [with_powers(p2=2)])
        self.assertEqual(before(MULTIPLYING, with_powers(p5=12)), [with_powers(p5=12, p11=1), with_powers(p3=1, p5=12)])

    def test_the_top_must_go_in_whole(self):
        self.assertEqual(before(((9, 2),), with_powers(p3=1)), [])
        self.assertEqual(before(((9, 2),), with_powers(p3=2)), [with_powers(p2=1)])
        self.assertEqual(before(((6, 1),), with_powers(p2=5)), [])

    def test_rising_as_tuples(self):
        several = 0
        program = tuple((1, prime) for prime in (2, 3, 5, 7, 11, 13, 17, 19, 23, 29))
        told = before(program, ONE)
        self.assertEqual(told, [factored(prime) for prime in (29, 23, 19, 17, 13, 11, 7, 5, 3, 2)])
        for program, powers in zip(small_programs(300, seed=59), small_powers(300, greatest=4, seed=61)):
            told = before(program, powers)
            several += len(told) > 1
            self.assertTrue(all(one < other for one, other in zip(told, told[1:])))
        self.assertGreater(several, 20)

    def test_kinds(self):
        told = told_twice(before, PRIME_TELLING, with_powers(p2=3))
        self.assertIs(told.__class__, list)
        for powers in told:
            self.assertIs(powers.__class__, tuple)
            self.assertEqual([part.__class__ for part in powers], [int] * 10)

    def test_a_told_list_is_the_askers_own(self):
        told = before(((1, 2), (1, 3)), ONE)
        told.append(ONE)
        told[0] = None
        self.assertEqual(before(((1, 2), (1, 3)), ONE), [with_powers(p3=1), with_powers(p2=1)])
        none = before(ADDING, ONE)
        none.append(1)
        self.assertEqual(before(ADDING, ONE), [])

    def test_however_great(self):
        great = 10 ** 6
        self.assertEqual(before(ADDING, (great,) * 10), [(great + 1, great - 1) + (great,) * 8])
        far = leap(((2 ** 39, 1),), ONE, 10 ** 18)
        self.assertEqual(before(((2 ** 39, 1),), far), [with_powers(p2=39 * (10 ** 18 - 1))])
        told = before(((2, 3),), far)
        self.assertEqual(told, [with_powers(p2=39 * 10 ** 18 - 1, p3=1)])
        self.assertEqual(step(((2, 3),), told[0]), far)


class ManyBefore(unittest.TestCase):
    def gone_back(self, program, powers, many):
        found = {powers}
        for _ in range(many):
            found = {ahead for reached in found for ahead in before(program, reached)}
        return found

    def test_against_before_again_and_again(self):
        greatest = 0
        for program, powers in zip(small_programs(150, 4, 67), small_powers(150, 4, 6, 71)):
            for many in range(5):
                told = told_twice(many_before, program, powers, many)
                self.assertEqual(told, len(self.gone_back(program, powers, many)))
                greatest = max(greatest, told)
        self.assertGreater(greatest, 3)

    def test_against_all_small_powers(self):
        for program in (((1, 2), (1, 3), (1, 5)), ((1, 5), (1, 3), (1, 2)), ((2, 3), (1, 2), (3, 5)), ((1, 4), (1, 2))):
            for many in range(4):
                found = {}
                for powers in box((9, 9, 9)):
                    number = product(powers)
                    for _ in range(many):
                        place = first_by_number(program, number)
                        if place is None:
                            break
                        number = number * program[place][0] // program[place][1]
                    else:
                        found.setdefault(factored(number), []).append(powers)
                for powers in box((2, 2, 2)):
                    self.assertEqual(many_before(program, powers, many), len(found.get(powers, [])))

    def test_ordinary(self):
        for many in range(5):
            self.assertEqual(many_before(ADDING, with_powers(p3=9), many), 1)
            self.assertEqual(many_before(ADDING, with_powers(p3=2), many), 1 if many <= 2 else 0)
            self.assertEqual(many_before(((1, 1),), with_powers(p3=2), many), 1)
        self.assertEqual([many_before(((1, 2), (1, 3)), ONE, many) for many in range(5)], [1, 2, 3, 4, 5])
        self.assertEqual([many_before(((1, 2),) * 16, ONE, many) for many in range(5)], [1, 1, 1, 1, 1])

    def test_no_steps(self):
        for powers in (ONE, (10 ** 6,) * 10, with_powers(p29=4)):
            self.assertEqual(many_before(PRIME_TELLING, powers, 0), 1)

    def test_however_great(self):
        far = leap(((2, 1),), ONE, 10 ** 18)
        self.assertEqual(many_before(((2, 1),), far, 4), 1)
        self.assertEqual(many_before(((2, 3), (2, 5)), far, 4), 5)
