"""The interface: each name with its arguments, defined in the file under which the document lists it."""

import importlib
import inspect
import unittest

FUNCTIONS = {
    "ratios": ["is_whole(thing, low=None, high=None)", "is_ratio(thing)", "make_ratio(top, bottom=1)",
               "ratio_plus(one, other)", "ratio_minus(one, other)", "ratio_times(one, other)",
               "ratio_over(one, other)", "ratio_negative(one)", "ratio_power(one, power)",
               "ratio_compare(one, other)", "ratio_text(one)"],
    "polys": ["is_poly(thing)", "make_poly(ratios)", "poly_plus(one, other)", "poly_minus(one, other)",
              "poly_times(one, other)", "poly_scaled(poly, ratio)", "poly_power(poly, power)", "poly_monic(poly)",
              "poly_common(one, other)", "poly_slope(poly)", "poly_plain(poly)", "poly_over(one, other)",
              "poly_at(poly, ratio)", "poly_degree(poly)"],
    "quotients": ["is_quotient(thing)", "has_t(quotient)", "make_quotient(top, bottom)", "ratio_quotient(ratio)",
                  "poly_quotient(poly)", "quotient_plus(one, other)", "quotient_minus(one, other)",
                  "quotient_times(one, other)", "quotient_over(one, other)", "quotient_negative(one)",
                  "as_ratio(quotient)", "quotient_at(quotient, ratio)"],
    "element": ["is_letter(thing)", "is_element(thing, many)", "element_has_t(element)", "make_element(rows, many)",
                "constant_element(quotient, many)", "letter_element(place, many)", "element_plus(one, other)",
                "element_minus(one, other)", "element_negative(one)", "element_times(one, other)",
                "element_scaled(element, quotient)", "element_power(element, power, many)",
                "from_coefficients(coefficients)", "widened(element, many)", "element_set_t(element, number)",
                "element_degree(element, place)", "coefficients_of(element)", "element_at(element, numbers)"],
    "elementtext": ["element_text(element, letters)", "poly_text(poly, letter='t')",
                    "read_element(text, letters, free=True)", "read_poly(text, letter='t')"],
    "towers": ["has_point(place, numbers)", "tower_set_t(tower, number)"],
    "reducing": ["reduced(tower, element)", "tower_plus(tower, one, other)", "tower_minus(tower, one, other)",
                 "tower_times(tower, one, other)", "tower_power(tower, one, power)", "tower_letter(tower, place)",
                 "tower_constant(tower, quotient)", "is_same(tower, one, other)", "as_quotient(tower, element)",
                 "told_reduction(tower, element)", "reduction_fault(tower, element, rest, factors)",
                 "basis_of(tower)", "coordinates_of(tower, element)", "combined_element(tower, coordinates)",
                 "multiply_table(tower, element)"],
    "systems": ["system_tower(system)"],
    "systemtext": ["system_text(system)", "tower_text(tower)", "read_system(text)"],
    "uppers": ["trim_upper(tower, upper)", "upper_times(tower, one, other)", "upper_over(tower, one, other)",
               "upper_slope(tower, upper)"],
    "divisors": ["common_divisors(tower, one, other, notes=None)", "zero_parts(tower, element, notes=None)",
                 "how_nought(tower, element)"],
    "plaintowers": ["is_plain(tower)", "doubled_letter(tower)", "plain_uppers(tower, upper, notes=None)",
                    "plain_towers(system, notes=None)"],
    "parting": ["carry_tower(tower, part)", "meet_towers(one, other, notes=None)", "parts_fault(tower, parts)",
                "zero_fault(tower, element, zeros, others)"],
    "inverses": ["inverses(tower, element, notes=None)", "divisions(tower, top, bottom, notes=None)",
                 "inverses_fault(tower, element, zeros, found)", "divided_fault(tower, one, other, found)"],
    "ways": ["partner_lines(lines)", "names_known(lines)", "depth_of(lines)"],
    "programs": ["is_name(thing)", "is_mark(thing)"],
    "programtext": ["read_program(text)", "program_text(program)", "expression_text(expression)"],
    "plainruns": ["run_at(program, letters, numbers)", "lines_walked(program, letters, numbers)"],
    "machine": ["run_once(program, tower, notes=None, free=False)", "run_system(program, system, notes=None)"],
    "partings": ["partings_of(program, tower)"],
    "outcomes": ["outcome_at(lots, numbers)", "lots_by_answers(lots)", "lots_at(lots, number)",
                 "lots_fault(program, tower, lots)"],
    "answerrows": ["answer_rows(program, system)"],
    "refining": ["apart_towers(towers, notes=None)", "less_towers(towers, others, notes=None)",
                 "refine_towers(towers, notes=None)", "counted_beginnings(towers, notes=None)"],
    "joining": ["join_pieces(pieces)"],
    "forms": ["form_of(letters, towers)", "form_of_lots(letters, lots)", "system_form(system)", "form_over(form, k)",
              "form_meet(one, other)", "form_join(one, other)", "form_less(one, other)", "same_points(one, other)",
              "form_has(form, numbers)", "values_at(form, numbers)", "form_fault(letters, pieces)"],
    "programforms": ["program_form(program, system)"],
    "sameness": ["programs_alike(system, one, other)", "apart_fault(system, one, other, apart)",
                 "apart_points(system, one, other)"],
    "sureways": ["sure_ways(program, system)", "sure_tests(program, system)", "idle_lines(program, system)",
                 "tests_counted(program, system)"],
    "shortening": ["cut_sure_ways(program, system)", "drop_idle(program, system)", "shorten_program(program, system)"],
    "sums": ["sum_over(tower, element)", "product_over(tower, element)", "full_equation(tower, element)",
             "least_equation(tower, element)", "count_nought(tower, element)"],
    "valuetables": ["value_table(tower, element)"],
    "markvalues": ["marks_counted(program, system)", "sum_of_mark(program, system, mark, place)",
                   "mean_of_mark(program, system, mark, place)", "mark_values(program, system, mark, place)",
                   "mark_equation(program, system, mark, place)", "taken_points(program, system, mark, place, m)"],
    "prefixes": ["ask_saying(system, saying)", "kept_points(system, saying)"],
    "freeruns": ["free_run(program, system)", "free_outcome(run, number, numbers)"],
    "lotsoft": ["lot_of_t(system, saying)", "same_for_all(system, one, other)", "count_lots(system, program, mark)"],
}
CLASSES = {
    ("towers", "Tower"): ["__init__(self, letters, equations)", "over(self, k)", "place_of(self, letter)",
                          "with_equation(self, letter, equation)", "__eq__(self, other)"],
    ("reducing", "Reduction"): ["__init__(self, rest, factors)", "__eq__(self, other)"],
    ("systems", "System"): ["__init__(self, letters, equations, free=False, *, special=False)",
                            "place_of(self, letter)", "at_free(self, number)", "special(self, poly)",
                            "__eq__(self, other)"],
    ("notes", "Notes"): ["__init__(self)", "take(self, poly)"],
    ("divisors", "Divided"): ["__init__(self, tower, divisor, left, right)", "__eq__(self, other)"],
    ("programs", "Program"): ["__init__(self, lines)", "__len__(self)", "__iter__(self)", "__eq__(self, other)"],
    ("plainruns", "Outcome"): ["__init__(self, mark, outputs, answers, walked)", "__eq__(self, other)"],
    ("machine", "Lot"): ["__init__(self, tower, mark, outputs, answers, walked)", "__eq__(self, other)"],
    ("partings", "Parting"): ["__init__(self, line, element, tower, zeros, others)", "__eq__(self, other)"],
    ("joining", "Piece"): ["__init__(self, tower, outputs)", "__eq__(self, other)"],
    ("forms", "Form"): ["__init__(self, letters, pieces)", "__iter__(self)", "__len__(self)", "__eq__(self, other)"],
    ("sameness", "Apart"): ["__init__(self, tower, mark, other_mark, place)", "__eq__(self, other)"],
    ("prefixes", "Saying"): ["__init__(self, program, mark, prefix)", "__eq__(self, other)"],
    ("freelots", "FreeLot"): ["__init__(self, kind, poly)", "__and__(self, other)", "__or__(self, other)",
                              "__invert__(self)", "__contains__(self, x)", "__eq__(self, other)"],
    ("freeruns", "FreeRun"): ["__init__(self, poly, general, special)", "__eq__(self, other)"],
}
PROPERTIES = {("towers", "Tower"): "has_free", ("systems", "System"): "has_free", ("notes", "Notes"): "joined"}


def module(name):
    """Return a module of the package."""
    return importlib.import_module("neverfactored." + name)


class InterfaceTest(unittest.TestCase):

    def check(self, thing, told, home):
        """Check the arguments of a function, and that it is defined in this module."""
        self.assertEqual(thing.__name__ + str(inspect.signature(thing)), told)
        self.assertEqual(thing.__module__, home.__name__)

    def test_functions(self):
        for name, functions in FUNCTIONS.items():
            for told in functions:
                self.check(getattr(module(name), told.split("(")[0]), told, module(name))

    def test_classes(self):
        for (name, kind), methods in CLASSES.items():
            self.assertEqual(getattr(module(name), kind).__module__, "neverfactored." + name)
            for told in methods:
                self.check(vars(getattr(module(name), kind))[told.split("(")[0]], told, module(name))

    def test_properties(self):
        for (name, kind), told in PROPERTIES.items():
            self.assertIsInstance(vars(getattr(module(name), kind))[told], property)

    def test_constants(self):
        self.assertEqual(module("ratios").ZERO, (0, 1))
        self.assertEqual(module("ratios").ONE, (1, 1))
        self.assertEqual(module("quotients").QUOTIENT_ZERO, ((), ((1, 1),)))
        self.assertEqual(module("quotients").QUOTIENT_ONE, (((1, 1),), ((1, 1),)))


if __name__ == "__main__":
    unittest.main()
