import importlib
import inspect
import unittest

FUNCTIONS = {
    "programs": ("is_powers(thing)", "number_of(powers)", "powers_of(number)", "is_program(thing)"),
    "texts": ("written(program)", "read(text)", "powers_written(powers)", "powers_read(text)"),
    "steps": ("first_fit(program, powers)", "step(program, powers)", "after(program, powers, many)",
              "trail(program, powers, many)", "stretch(program, powers)", "leap(program, powers, many)"),
    "before": ("before(program, powers)", "many_before(program, powers, many)"),
    "fates": ("fate(program, powers, most)", "is_fate(program, powers, thing)", "meet(program, one, other, most)"),
    "kept": ("is_kept(program, thing)", "sum_by(row, powers)", "base(program)", "parted_by(program, one, other)"),
    "weights": ("are_weights(program, thing)", "is_balance(program, thing)", "weight_of(weights, powers)",
                "weighed(program)"),
    "loops": ("added_by(program, powers, trail)", "far_on(program, powers, trail, steps)",
              "first_loop(program, powers, most)"),
    "machines": ("is_machine(thing)", "machine_after(machine, stand, many)", "program_of(machine)",
                 "stand_powers(machine, stand, second)"),
    "turned": ("machine_of(program)",),
}


class Interface(unittest.TestCase):
    def test_names_and_arguments(self):
        for module, functions in FUNCTIONS.items():
            held = importlib.import_module(f"wholefract.{module}")
            for function in functions:
                name = function.partition("(")[0]
                self.assertEqual(f"{name}{inspect.signature(getattr(held, name))}", function)
