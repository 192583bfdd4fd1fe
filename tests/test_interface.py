import importlib
import inspect
import unittest

NAMES = {
    "errors": {"SlopeError": None, "NoText": None, "Nought": None, "TooGreat": None,
               "Hole": ["self", "many"], "NoRow": ["self", "line"]},
    "numbers": {"ratio": ["top", "bottom"], "plus": ["one", "other"], "minus": ["one", "other"],
                "times": ["one", "other"], "over": ["one", "other"], "before": ["one", "other"],
                "floor_of": ["one"], "power": ["one", "n"]},
    "polys": {"poly": ["row"], "degree": ["P"], "p_plus": ["P", "Q"], "p_minus": ["P", "Q"], "p_times": ["P", "Q"],
              "p_scaled": ["P", "c"], "p_split": ["P", "Q"], "monic": ["P"], "common": ["P", "Q"],
              "bezout": ["P", "Q"], "p_slope": ["P"], "p_at": ["P", "c"], "p_moved": ["P", "c"],
              "p_power": ["P", "n"]},
    "linear": {"solved": ["rows", "due"]},
    "places": {"rational_roots": ["P"], "count_between": ["P", "low", "high"]},
    "parts": {"simple_parts": ["P"], "radical": ["P"], "inverse": ["P", "W"], "least": ["P", "W"],
              "put_into": ["m", "P", "W"], "meets": ["P", "Q"]},
    "fractions": {"fraction": ["P", "Q"], "f_plus": ["F", "G"], "f_minus": ["F", "G"], "f_times": ["F", "G"],
                  "f_over": ["F", "G"], "f_slope": ["F"], "f_at": ["F", "c"], "f_moved": ["F", "c"],
                  "f_poly": ["P"], "f_number": ["c"]},
    "texts": {"read": ["text", "letters"], "read_x": ["text"], "show_number": ["c"], "show_poly": ["P"], "show": ["F"]},
    "forms": {"settled": ["R", "rows"], "form_slope": ["form"], "form_plus": ["one", "other"],
              "form_scaled": ["form", "c"]},
    "back": {"hermite": ["f"], "residue_parts": ["A", "D"], "back": ["f"]},
    "backpaper": {"shows_form": ["f", "form"], "shows_none": ["f", "paper"]},
    "roots": {"x_of": ["kind"], "read_root": ["kind", "text"], "parted": ["kind", "g"], "joined": ["kind", "parts"],
              "root_slope": ["kind", "form"], "root_back": ["kind", "g"], "root_shows": ["kind", "g", "paper"]},
    "sums": {"steps_of": ["r"], "top_of": ["a", "b", "c"], "summed": ["r"], "sum_of": ["F"]},
    "sumpaper": {"shows_sum": ["r", "s"], "shows_no_sum": ["r", "paper"]},
    "slopes": {"hold_of": ["f", "g"], "bottom_of": ["g", "rows"], "reduced": ["f", "g", "T"], "top_for": ["p", "q", "s"],
               "solve": ["f", "g"]},
    "slopepaper": {"shows_solution": ["f", "g", "y"], "shows_only": ["f", "why"],
                   "shows_no_solution": ["f", "g", "paper"]},
    "lognumbers": {"settled_number": ["q", "rows"], "n_plus": ["one", "other"], "n_scaled": ["one", "c"],
                   "sign_of": ["one"], "held": ["one", "width"]},
    "limits": {"value_at": ["form", "c"], "limit": ["form", "place", "side"]},
    "areas": {"holes": ["f", "low", "high"], "area": ["f", "low", "high"]},
    "alike": {"alike": ["one", "other"]},
    "sheet": {"show_form": ["form"], "show_log_number": ["n"]},
    "run": {"run": ["text"]},
}


class Interface(unittest.TestCase):
    def test_names_and_arguments(self):
        for file, names in NAMES.items():
            module = importlib.import_module("backslope." + file)
            for name, arguments in names.items():
                found = getattr(module, name)
                self.assertEqual(found.__module__, "backslope." + file)
                if arguments is not None:
                    asked = found.__init__ if inspect.isclass(found) else found
                    self.assertEqual(list(inspect.signature(asked).parameters), arguments, name)


if __name__ == "__main__":
    unittest.main()
