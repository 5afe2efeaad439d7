"""The rows of the interface: just these names and parameters, each defined in the file under which it is listed."""

import inspect
import unittest

from truestops import errors, flows, numbers, programs

LISTED = {
    numbers: [
        "inverse(prime, number)", "combined(prime, vectors, factors)", "reduced(prime, vectors)", "rank(prime, vectors)",
        "solved(prime, vectors, wanted)", "is_solved(prime, vectors, wanted, value)", "barred(prime, vectors, wanted)",
        "is_barred(prime, vectors, wanted, value)", "nothings(prime, vectors)", "between(prime, first, second, wanted)",
        "is_between(prime, first, second, wanted, value)", "barred_between(prime, first, second, wanted)",
        "is_barred_between(prime, first, second, wanted, value)",
    ],
    programs: [
        "Program(prime, shared, procedures, body)", "run_program(program, inputs)", "all_stops(program)",
        "holders_at(program, stop)", "in_sight(program, stop)", "passed_stops(program, inputs)", "program_text(program)",
        "read_program(text)",
    ],
    flows: [
        "points(program)", "stop_places(program)", "alive_at(program, place)", "way_of(program, inputs)",
        "run_flow(program, inputs)",
    ],
}
METHODS = {"prime": "(self)", "shared": "(self)", "procedures": "(self)", "body": "(self)", "__eq__": "(self, other)"}


class Interface(unittest.TestCase):
    def test_functions_and_classes(self):
        for module, rows in LISTED.items():
            for row in rows:
                name = row.partition("(")[0]
                thing = getattr(module, name)
                self.assertEqual(name + str(inspect.signature(thing)), row)
                self.assertEqual(thing.__module__, module.__name__)

    def test_methods_stand_in_the_class(self):
        for name, parameters in METHODS.items():
            self.assertEqual(str(inspect.signature(vars(programs.Program)[name])), parameters)

    def test_errors(self):
        for name, thing in vars(errors).items():
            if isinstance(thing, type):
                self.assertEqual((name, thing.__module__), (thing.__name__, "truestops.errors"))

    def test_objects_are_of_the_listed_classes(self):
        self.assertIs(type(programs.Program(5, [], [], ([], []))), programs.Program)
        self.assertIs(type(programs.read_program("prime 5\nshared ()\nmain")), programs.Program)


if __name__ == "__main__":
    unittest.main()
