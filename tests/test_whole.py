"""What is promised over the whole program: through the functions of all stages together."""

import copy
import random
import unittest

from things import (ADDING, ALL_GO, EXCHANGING, MULTIPLYING, ONE, PRIME_TELLING, SIXTEEN, TEN, box, by_hand, changes_of,
                    factored, next_by_number, of_every_kind, product, refused_with, same, small_powers, small_programs,
                    some_programs, told_twice, walk, with_powers)
from wholefract.alike import idle, unlike_at, without_idle
from wholefract.before import before, many_before
from wholefract.bench import Bench
from wholefract.desk import Desk
from wholefract.errors import AtRest, FractError, NoName, NoNumber, NoOrder, NoPowers, NoProgram, NoRow, NoText, NoTrail
from wholefract.fates import fate, is_fate, meet
from wholefract.kept import base, is_kept, parted_by, sum_by
from wholefract.loops import added_by, far_on, first_loop
from wholefract.machines import is_machine, machine_after, program_of, stand_powers
from wholefract.named import joined, powers_renamed, primes_in, renamed
from wholefract.programs import is_powers, is_program, number_of, powers_of
from wholefract.steps import after, first_fit, leap, step, stretch, trail
from wholefract.texts import powers_read, powers_written, read, written
from wholefract.turned import machine_of
from wholefract.weights import are_weights, is_balance, weighed, weight_of

MOST = 10 ** 18
POURING = (2, (("take", 0, 1, 2), ("add", 1, 0)))
TURNED = tuple(range(9, -1, -1))


def drawn(many, primes=3, greatest=6, seed=3):
    return list(zip(small_programs(many, primes, seed), small_powers(many, primes, greatest, seed + 1)))


def reached_by(call, program, powers, many):
    """The powers, or how many steps were done where they rest."""
    try:
        return call(program, powers, many)
    except AtRest as rest:
        return rest.steps


def in_stretches(program, powers, many):
    done = 0
    while done < many:
        try:
            number, steps, reached = stretch(program, powers)
        except AtRest:
            return done
        if steps is None or steps > many - done:
            top, bottom = map(factored, program[number])
            steps = many - done
            reached = tuple(power + steps * (more - less) for power, more, less in zip(powers, top, bottom))
        powers, done = reached, done + steps
    return powers


def by_steps(program, powers, many):
    for done in range(many):
        try:
            powers = step(program, powers)
        except AtRest:
            return done
    return powers


def by_bench(program, powers, parts):
    bench = Bench(program)
    bench.put("a", powers)
    went = sum(bench.run("a", part) for part in parts)
    if went != bench.gone("a"):
        raise AssertionError("the runs are not the steps gone")
    return went if went < sum(parts) else bench.powers("a")


def by_desk(program, powers, parts):
    desk = Desk()
    desk.say(f"program {written(program)}")
    desk.say(f"put a {powers_written(powers)}")
    went = sum(int(desk.say(f"run a {part}")) for part in parts)
    return went if went < sum(parts) else powers_read(desk.say("show a"))


class Steps(unittest.TestCase):
    def test_the_first_ones_and_then_the_others(self):
        rests = 0
        for program, powers in drawn(200, 4):
            for first, others in ((0, 0), (0, 5), (1, 1), (3, 4), (20, 30)):
                many = first + others
                expected = reached_by(after, program, powers, many)
                rests += isinstance(expected, int)
                self.assertEqual(reached_by(leap, program, powers, many), expected)
                self.assertEqual(by_steps(program, powers, many), expected)
                self.assertEqual(in_stretches(program, powers, many), expected)
                self.assertEqual(by_bench(program, powers, (first, others)), expected)
                self.assertEqual(by_desk(program, powers, (first, others)), expected)
                self.assertEqual(len(trail(program, powers, many)), many if isinstance(expected, tuple) else expected)
                begin = reached_by(after, program, powers, first)
                if isinstance(begin, tuple):
                    for one in (after, leap):
                        reached = reached_by(one, program, begin, others)
                        self.assertEqual(reached + first if isinstance(reached, int) else reached, expected)
        self.assertGreater(rests, 50)

    def test_ahead_just_where_a_step_leads_there(self):
        for program in small_programs(40, 3, 5):
            behind = {powers: next_by_number(program, powers) for powers in box((6, 6, 6))}
            for powers, reached in behind.items():
                self.assertEqual(first_fit(program, powers) is None, reached is None)
                if reached is not None:
                    self.assertEqual(step(program, powers), reached)
                    self.assertIn(powers, before(program, reached))
            for powers in box((3, 3, 3)):
                told = before(program, powers)
                self.assertEqual([ahead for ahead in told if ahead in behind],
                                 sorted(ahead for ahead in behind if behind[ahead] == powers))
                self.assertEqual(many_before(program, powers, 1), len(told))
                self.assertEqual(many_before(program, powers, 2),
                                 sum(many_before(program, ahead, 1) for ahead in told))


class Fates(unittest.TestCase):
    def test_right_and_the_least(self):
        seen = {"rests": 0, "round": 0, "open": 0}
        for program, powers in drawn(400, 3, 5, 7):
            told = fate(program, powers, 60)
            seen[told[0]] += 1
            reached, _ = walk(program, powers, 60)
            if told[0] == "rests":
                self.assertEqual((told[1], told[2]), (len(reached) - 1, reached[-1]))
                self.assertEqual(len(set(reached)), len(reached))
                self.assertEqual(refused_with(leap, program, powers, MOST).steps, told[1])
                self.assertIsNone(first_loop(program, powers, 80))
            elif told[0] == "round":
                steps, length = told[1:]
                self.assertEqual(reached[steps], reached[steps + length])
                self.assertEqual(len(set(reached[:steps + length])), steps + length)
                self.assertEqual(by_bench(program, powers, (steps, length)), after(program, powers, steps))
            else:
                self.assertEqual((len(reached), len(set(reached))), (61, 61))
            self.assertIs(is_fate(program, powers, told), told[0] != "open")
        self.assertGreater(min(seen.values()), 20)

    def test_what_meets_has_one_fate(self):
        met = 0
        for (program, one), other in zip(drawn(900, 3, 4, 11), small_powers(900, 3, 4, 13)):
            told = meet(program, one, other, 40)
            if told is None:
                continue
            met += 1
            first, second, reached = told
            self.assertEqual((after(program, one, first), after(program, other, second)), (reached, reached))
            self.assertIsNone(parted_by(program, one, other))
            self.assertEqual(fate(program, one, 400)[0] == "rests", fate(program, other, 400)[0] == "rests")
        self.assertGreater(met, 30)


class KeptAndWeighed(unittest.TestCase):
    def test_no_step_changes_the_sum(self):
        for program in some_programs():
            for row in base(program):
                self.assertTrue(is_kept(program, row))
                for powers in small_powers(3, 10, 9, 17):
                    for many in (1, 7, 20):
                        reached = reached_by(leap, program, powers, many)
                        if isinstance(reached, tuple):
                            self.assertEqual(sum_by(row, reached), sum_by(row, powers))
                            self.assertIsNone(parted_by(program, powers, reached))
                    for ahead in before(program, powers):
                        self.assertEqual(by_hand(row, ahead), by_hand(row, powers))

    def test_never_both_always_one(self):
        kinds = {"weights": 0, "balance": 0}
        for program in list(some_programs()) + list(small_programs(300, 4, 19)):
            kind, told = weighed(program)
            kinds[kind] += 1
            self.assertEqual((are_weights(program, told), is_balance(program, told)),
                             (kind == "weights", kind == "balance"))
            if kind == "weights":
                for powers in small_powers(4, 10, 3, 23):
                    steps = reached_by(leap, program, powers, weight_of(told, powers) + 1)
                    self.assertIsInstance(steps, int)
                    self.assertLessEqual(steps, weight_of(told, powers))
            else:
                # Each fraction so often as the balance says: of no prime there is less.
                total = [sum(often * change for often, change in zip(told, column))
                         for column in zip(*changes_of(program))]
                self.assertGreaterEqual(min(total), 0)
        self.assertGreater(min(kinds.values()), 30)

    def test_by_weights_nothing_loops_and_all_fates_rest(self):
        for program, powers in drawn(400, 3, 4, 29):
            if weighed(program)[0] == "weights":
                self.assertIsNone(first_loop(program, powers, 80))
                self.assertNotEqual(fate(program, powers, 400)[0], "round")


class Loops(unittest.TestCase):
    def test_for_ever_and_far_on(self):
        found = 0
        for program, powers in drawn(300, 3, 5, 31):
            told = first_loop(program, powers, 40)
            if told is None:
                continue
            found += 1
            steps, numbers, added = told
            begin = after(program, powers, steps)
            self.assertEqual(added_by(program, begin, numbers), added)
            self.assertEqual(weighed(program)[0], "balance")
            often = tuple(numbers.count(number) for number in range(len(program)))
            self.assertTrue(is_balance(program, often))
            for many in (0, 1, len(numbers), 7 * len(numbers) + 1, 60):
                self.assertEqual(far_on(program, begin, numbers, many), by_bench(program, begin, (many,)))
            for far in (MOST, MOST - 1):
                reached = far_on(program, begin, numbers, far)
                self.assertIsNotNone(first_fit(program, reached))
                self.assertEqual(step(program, reached), far_on(program, begin, numbers, far + 1))
            self.assertNotEqual(fate(program, powers, 400)[0], "rests")
        self.assertGreater(found, 100)


class Machines(unittest.TestCase):
    def some_machines(self, many, seed):
        chance = random.Random(seed)
        for _ in range(many):
            counters = chance.randint(1, 6)
            length = chance.randint(1, (10 - counters) // 2)
            rows = []
            for _ in range(length):
                counter = chance.randrange(counters)
                onward, other = chance.randint(0, length), chance.randint(0, length)
                rows.append(chance.choice((("add", counter, onward), ("take", counter, onward, other))))
            yield (counters, tuple(rows)), tuple(chance.randint(0, 4) for _ in range(counters))

    def test_a_machine_and_its_program(self):
        for machine, values in self.some_machines(150, 37):
            program, stand, second = program_of(machine), (0, values), False
            self.assertTrue(is_machine(machine) and is_program(program))
            bench = Bench(program)
            bench.put("a", stand_powers(machine, stand, second))
            for _ in range(25):
                self.assertEqual(bench.powers("a"), stand_powers(machine, stand, second))
                went = bench.run("a", 1)
                if stand[0] == len(machine[1]):
                    self.assertEqual(went, 0)
                    break
                self.assertEqual(went, 1)
                stand, second = machine_after(machine, stand, 1), not second

    def test_a_program_and_its_machine(self):
        for program, powers in drawn(100, 4, 4, 41):
            machine = machine_of(program)
            stand = (0, powers)
            for _ in range(4):
                expected = next_by_number(program, stand[1])
                for _ in range(1000):
                    stand = machine_after(machine, stand, 1)
                    if stand[0] in (0, len(machine[1])):
                        break
                if expected is None:
                    self.assertEqual(stand[0], len(machine[1]))
                    self.assertEqual(first_fit(program, stand[1]), None)
                    break
                self.assertEqual(stand, (0, expected))


class Alike(unittest.TestCase):
    def test_alike_do_the_same(self):
        alike = unlike = 0
        for program, powers in drawn(200, 3, 6, 43):
            for other in (program, without_idle(program), program + program, program[::-1], program[1:] or program):
                told = unlike_at(program, other)
                if told is None:
                    alike += 1
                    self.assertEqual(fate(program, powers, 100), fate(other, powers, 100))
                    self.assertEqual(before(program, powers), before(other, powers))
                    self.assertEqual(by_bench(program, powers, (30,)), by_bench(other, powers, (30,)))
                else:
                    unlike += 1
                    self.assertNotEqual(next_by_number(program, told), next_by_number(other, told))
                    self.assertNotEqual(by_bench(program, told, (1,)), by_bench(other, told, (1,)))
        self.assertGreater(alike, 400)
        self.assertGreater(unlike, 100)

    def test_what_is_idle_is_never_missed(self):
        for program, powers in drawn(200, 3, 6, 47):
            left = without_idle(program)
            self.assertEqual(len(left) + len(idle(program)), len(program))
            self.assertFalse(set(trail(program, powers, 100)) & set(idle(program)))
            self.assertEqual([left[number] for number in trail(left, powers, 100)],
                             [program[number] for number in trail(program, powers, 100)])
            self.assertEqual(reached_by(leap, left, powers, 100), reached_by(leap, program, powers, 100))
            self.assertEqual(fate(left, powers, 400), fate(program, powers, 400))
            self.assertEqual(many_before(left, powers, 3), many_before(program, powers, 3))


class NamedAnewAndJoined(unittest.TestCase):
    def test_by_other_primes_all_goes_as_before(self):
        chance = random.Random(53)
        done = 0
        for program, powers in drawn(250, 3, 5, 59):
            order = tuple(chance.sample(range(10), 10))
            try:
                other = renamed(program, order)
            except FractError:
                continue
            done += 1
            begin = powers_renamed(powers, order)
            self.assertEqual(trail(other, begin, 60), trail(program, powers, 60))
            self.assertEqual(sorted(before(other, begin)),
                             sorted(powers_renamed(ahead, order) for ahead in before(program, powers)))
            self.assertEqual(many_before(other, begin, 2), many_before(program, powers, 2))
            expected = fate(program, powers, 60)
            if expected[0] == "rests":
                expected = expected[:2] + (powers_renamed(expected[2], order),)
            self.assertEqual(fate(other, begin, 60), expected)
            self.assertEqual(idle(other), idle(program))
            self.assertEqual(weighed(other)[0], weighed(program)[0])
            if weighed(program)[0] == "weights":
                self.assertTrue(are_weights(other, powers_renamed(weighed(program)[1], order)))
            self.assertEqual(len(base(other)), len(base(program)))
            for row in base(program):
                self.assertTrue(is_kept(other, tuple(row[place] for place in order)))
            loop = first_loop(program, powers, 30)
            if loop is not None:
                loop = loop[:2] + (powers_renamed(loop[2], order),)
            self.assertEqual(first_loop(other, begin, 30), loop)
            self.assertEqual(primes_in(other), tuple(TEN[place] for place in range(10)
                                                     if TEN[order[place]] in primes_in(program)))
            if is_powers(unlike_at(program, program[::-1])):
                told = powers_renamed(unlike_at(program, program[::-1]), order)
                self.assertNotEqual(next_by_number(other, told), next_by_number(other[::-1], told))
        self.assertGreater(done, 150)

    def test_first_the_one_then_the_other(self):
        on = 0
        order = (5, 6, 7, 8, 9, 0, 1, 2, 3, 4)
        for (one, powers), (raw, more) in zip(drawn(300, 3, 4, 61), drawn(300, 3, 4, 67)):
            try:
                other = renamed(raw, order)
            except FractError:
                continue
            together = joined(one, other)
            begin = powers[:5] + powers_renamed(more, order)[5:]
            told = fate(one, begin, 60)
            if told[0] != "rests":
                self.assertEqual(trail(together, begin, 60), trail(one, begin, 60))
                self.assertEqual(after(together, begin, 60), after(one, begin, 60))
                continue
            steps, middle = told[1:]
            for many in (0, 1, 5, 40):
                reached = reached_by(after, other, middle, many)
                expected = reached if isinstance(reached, tuple) else reached + steps
                self.assertEqual(reached_by(after, together, begin, steps + many), expected)
                on += isinstance(reached, tuple) and many > 0
            numbers = [number + len(one) for number in trail(other, middle, 40)]
            self.assertEqual(trail(together, begin, steps + 40), trail(one, begin, steps) + numbers)
        self.assertGreater(on, 50)


class Benches(unittest.TestCase):
    def test_as_run_anew_from_the_beginning(self):
        chance = random.Random(71)
        for program, _ in drawn(60, 4, 5, 73):
            bench, begins = Bench(program), []
            for _ in range(50):
                name = chance.choice("abc")
                word = chance.choice(("put", "run", "run", "drop", "undo"))
                stand = dict(begins[-1]) if begins else {}
                try:
                    if word == "put":
                        stand[name] = tuple(chance.randint(0, 4) for _ in range(10))
                        bench.put(name, stand[name])
                    elif word == "run":
                        bench.run(name, chance.choice((0, 1, 3, 15, 40)))
                    elif word == "drop":
                        bench.drop(name)
                        stand.pop(name)
                    else:
                        bench.undo()
                        begins.pop()
                except FractError:
                    continue
                if word != "undo":
                    begins.append(stand)
                stand = begins[-1] if begins else {}
                self.assertEqual(bench.names(), sorted(stand))
                for kept, begin in stand.items():
                    self.assertEqual(bench.powers(kept), leap(program, begin, bench.gone(kept)))
                    self.assertEqual(bench.powers(kept), after(program, begin, bench.gone(kept)))


def told_things():
    """What the functions tell, of all sizes, to be handed in again."""
    programs = [ADDING, MULTIPLYING, PRIME_TELLING, EXCHANGING, ALL_GO, SIXTEEN, ((1, 1),), ((2 ** 39, 3 ** 25),)]
    for program in programs:
        yield from (program, written(program), base(program), weighed(program), weighed(program)[1], idle(program),
                    without_idle(program), primes_in(program), changes_of(program))
        yield from base(program)
        for powers in (ONE, (3,) * 10, (10 ** 6,) * 10):
            yield from (fate(program, powers, 400), trail(program, powers, 400), before(program, powers),
                        tuple(trail(program, powers, 400)), first_loop(program, powers, 80), powers_written(powers),
                        meet(program, powers, ONE, 50), parted_by(program, powers, ONE))
    yield from (machine_of(PRIME_TELLING), machine_of(((1, 3 ** 25),) * 12), program_of(POURING))
    far = leap(((30, 1),), ONE, MOST)
    yield from (far, powers_written(far), stretch(((30, 1),), far), unlike_at(ADDING, MULTIPLYING))
    # Far beyond what Python itself is willing to write as a text.
    farther = tuple(sum_by(far, far) * 10 ** 5000 for _ in range(10))
    yield from (farther, farther[0], powers_written(farther), powers_renamed(farther, TURNED), ("rests", 0, farther),
                ("round", farther[0], 1), list(farther), {"a": farther}, farther[:1])
    yield from (Bench(ADDING).names(), Desk().say("program 3/2"))


def whole_bench():
    bench = Bench(ADDING)
    bench.put("b", with_powers(p2=3))
    bench.run("b", 1)
    return bench


def whole_desk():
    desk = Desk()
    desk.say("program 3/2")
    desk.say("put b 2^3")
    return desk


# Each function that is told something of anything: how it is asked, and how it may refuse.
OF_ANYTHING = (
    (is_powers, ()), (powers_of, (NoNumber,)), (is_program, ()), (read, (NoText,)), (powers_read, (NoText,)),
    (lambda thing: is_fate(ADDING, (2,) * 10, thing), ()), (lambda thing: is_kept(PRIME_TELLING, thing), ()),
    (lambda thing: are_weights(ADDING, thing), ()), (lambda thing: is_balance(MULTIPLYING, thing), ()),
    (lambda thing: added_by(((2, 1),), ONE, thing), ()), (lambda thing: far_on(((2, 1),), ONE, thing, 9), (NoTrail,)),
    (is_machine, ()), (lambda thing: powers_renamed(ONE, thing), (NoOrder,)),
    (lambda thing: renamed(ADDING, thing), (NoOrder,)), (lambda thing: Bench(thing).names(), (NoProgram,)),
    (lambda thing: whole_bench().put(thing, ONE), (NoName,)),
    (lambda thing: whole_bench().put("a", thing), (NoPowers,)),
    (lambda thing: whole_bench().drop(thing), (NoName,)), (lambda thing: whole_bench().run(thing, 1), (NoName,)),
    (lambda thing: whole_bench().powers(thing), (NoName,)), (lambda thing: whole_bench().gone(thing), (NoName,)),
    (lambda thing: Desk().say(thing), (NoRow, NoProgram)), (lambda thing: whole_desk().say(thing), (NoRow,)),
)
TRUTHS = (is_powers, is_program, is_machine)


def answered(call, thing):
    """What is told, or the class of the refusal."""
    try:
        return ("told", call(thing))
    except FractError as refusal:
        return ("refused", refusal.__class__)


class Anything(unittest.TestCase):
    def deep_and_wide(self):
        chance = random.Random(79)
        kinds = (lambda part: [part], lambda part: (part,), lambda part: {"a": part}, lambda part: (part, 1),
                 lambda part: ("rests", 0, part), lambda part: (part,) * 2)
        for _ in range(40):
            thing = chance.choice((None, True, 1, "a", -10 ** 59, 10 ** 60 - 1, "9" * 2000, ONE, ADDING, POURING))
            wide = 0
            for _ in range(chance.choice((1, 2, 10, 60))):
                kind = chance.choice(kinds)
                if kind is kinds[-1]:
                    # Twice as many parts each time, so only a few times.
                    wide += 1
                    kind = kind if wide < 8 else kinds[0]
                thing = kind(thing)
            yield thing
        yield from ([0] * 9999, (0,) * 9999, {number: 0 for number in range(5000)}, [[0] * 99] * 99, ((1, 1),) * 3000,
                    tuple(("add", 0, 0) for _ in range(2400)), (1, tuple(("add", 0, 0) for _ in range(2400))))

    def test_all_is_answered(self):
        things = of_every_kind() + list(self.deep_and_wide()) + list(told_things())
        for call, refusals in OF_ANYTHING:
            for thing in things:
                earlier = copy.deepcopy(thing)
                first = answered(call, thing)
                self.assertTrue(same(first, answered(call, thing)))
                self.assertTrue(same(thing, earlier))
                if first[0] == "refused":
                    self.assertIn(first[1], refusals, type(thing))
                if call in TRUTHS:
                    self.assertIn(first[1], (True, False))

    def test_truths_are_no_numbers(self):
        for call, thing in ((is_powers, (True,) * 10), (is_program, ((True, 2),)),
                            (is_machine, (True, (("add", 0, 0),))),
                            (lambda thing: is_kept(((1, 1),), thing), (False,) * 10),
                            (lambda thing: are_weights(((1, 2),), thing), (True,) + ONE[1:]),
                            (lambda thing: is_balance(((1, 1),), thing), (True,)),
                            (lambda thing: is_fate(((1, 1),), ONE, thing), ("round", 0, True)),
                            (lambda thing: is_fate(ADDING, ONE, thing), ("rests", False, ONE))):
            self.assertIs(call(thing), False)
        self.assertIsNone(added_by(((2, 1),), ONE, (False,)))
        for call, thing, refusal in ((powers_of, True, NoNumber), (Bench, ((3, True),), NoProgram),
                                     (lambda thing: far_on(((2, 1),), ONE, thing, 1), (False,), NoTrail),
                                     (lambda thing: powers_renamed(ONE, thing), (False,) + TURNED[8::-1], NoOrder),
                                     (lambda thing: whole_bench().put("a", thing), (True,) * 10, NoPowers)):
            self.assertEqual(answered(call, thing), ("refused", refusal))


class Handed(unittest.TestCase):
    def test_each_told_list_is_the_askers_own(self):
        powers = with_powers(p2=3, p3=1)
        bench = whole_bench()
        asked = (lambda: trail(ADDING, powers, 9), lambda: before(ADDING, powers), lambda: base(ADDING),
                 lambda: idle(((3, 2), (3, 2))), bench.names, lambda: base(ALL_GO), lambda: idle(ADDING),
                 lambda: before(ADDING, ONE), lambda: trail(ADDING, ONE, 9), Bench(ADDING).names)
        for ask in asked:
            told = ask()
            expected = copy.deepcopy(told)
            self.assertIs(told.__class__, list)
            told.append("more")
            told.reverse()
            self.assertEqual(ask(), expected)
            ask().clear()
            self.assertEqual(ask(), expected)
            kept = ask()
            bench.put("c", ONE)
            bench.undo()
            self.assertEqual(kept, expected)

    def test_asked_twice_and_nothing_changed(self):
        for program, powers in drawn(60, 4, 5, 83):
            far = leap(((30, 1),), powers, MOST)
            for call, handed in (
                    (first_fit, ()), (trail, (40,)), (before, ()), (many_before, (3,)), (fate, (50,)),
                    (first_loop, (40,)), (meet, (far, 20)), (parted_by, (far,))):
                told_twice(call, program, powers, *handed)
                told_twice(call, program, far, *handed)
            for call in (idle, without_idle, primes_in, weighed, base, machine_of, written):
                told_twice(call, program)
            told_twice(unlike_at, program, program[::-1])
            told_twice(powers_renamed, far, TURNED)
            told_twice(powers_written, far)

    def test_written_and_read_through_all_stages(self):
        for program, powers in drawn(100, 10, 1, 89):
            again = read(written(program))
            self.assertEqual(again, program)
            self.assertEqual(powers_read(powers_written(powers)), powers)
            self.assertEqual(powers_of(number_of(powers)), powers)
            self.assertEqual(product(powers), number_of(powers))
            self.assertIsNone(unlike_at(again, program))

    def test_what_was_told_is_handed_in_again(self):
        far = leap(((30, 1),), ONE, MOST)
        self.assertEqual(before(((30, 1),), far), [(MOST - 1,) * 3 + (0,) * 7])
        self.assertEqual(step(((30, 1),), before(((30, 1),), far)[0]), far)
        self.assertTrue(is_powers(far))
        self.assertEqual(added_by(((30, 1),), far, (0,)), with_powers(p2=1, p3=1, p5=1))
        self.assertEqual(fate(((1, 30),), far, 400), ("open",))
        self.assertEqual(reached_by(leap, ((1, 30),), far, MOST + 1), MOST)
        self.assertEqual(powers_renamed(far, TURNED), (0,) * 7 + (MOST,) * 3)
        self.assertEqual(weight_of(far, far), 3 * MOST ** 2)
        self.assertEqual(powers_written(far), f"2^{MOST}*3^{MOST}*5^{MOST}")
        for program in some_programs():
            kind, told = weighed(program)
            self.assertTrue((are_weights if kind == "weights" else is_balance)(program, told))
            self.assertTrue(is_machine(machine_of(program)) and is_program(without_idle(program)))
