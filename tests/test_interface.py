import importlib
import inspect
import unittest

FUNCTIONS = {
    "programs": ("is_powers(thing)", "number_of(powers)", "powers_of(number)", "is_program(thing)"),
    "texts": ("written(program)", "read(text)", "powers_written(powers)", "powers_read(text)"),
    "steps": ("first_fit(program, powers)", "step(program, powers)", "after(program, powers, many)",
              "trail(program, powers, many)", "stretch(program, powers)", "leap(program, powers, many)"),
    "before": ("before(program, powers)", "many_before(program, powers, many)"),
    "fates": ("fate(program, powers, most)", "is_fate(program, powers, thing)", "meet(program, one, other, most)"),
    "kept": ("is_kept(program, thing)", "sum_by(row, powers)", "base(program)", "parted_by(program, one, other)"),
    "weights": ("are_weights(program, thing)", "is_balance(program, thing)", "weight_of(weights, powers)",
                "weighed(program)"),
    "loops": ("added_by(program, powers, trail)", "far_on(program, powers, trail, steps)",
              "first_loop(program, powers, most)"),
    "machines": ("is_machine(thing)", "machine_after(machine, stand, many)", "program_of(machine)",
                 "stand_powers(machine, stand, second)"),
    "turned": ("machine_of(program)",),
    "alike": ("idle(program)", "without_idle(program)", "unlike_at(one, other)"),
    "named": ("powers_renamed(powers, order)", "renamed(program, order)", "primes_in(program)", "joined(one, other)"),
}
CLASSES = {
    "bench": ("Bench(program)", ("put(name, powers)", "drop(name)", "undo()", "run(name, many)", "names()",
                                 "powers(name)", "gone(name)")),
    "desk": ("Desk()", ("say(row)",)),
}


class Interface(unittest.TestCase):
    def test_names_and_arguments(self):
        for module, functions in FUNCTIONS.items():
            held = importlib.import_module(f"wholefract.{module}")
            for function in functions:
                name = function.partition("(")[0]
                self.assertEqual(f"{name}{inspect.signature(getattr(held, name))}", function)

    def test_classes_and_their_methods(self):
        made = {"Bench": (((3, 2),),), "Desk": ()}
        for module, (form, methods) in CLASSES.items():
            name = form.partition("(")[0]
            held = getattr(importlib.import_module(f"wholefract.{module}"), name)
            self.assertEqual(f"{name}{inspect.signature(held)}", form)
            one = held(*made[name])
            for method in methods:
                word = method.partition("(")[0]
                self.assertEqual(f"{word}{inspect.signature(getattr(one, word))}", method)
