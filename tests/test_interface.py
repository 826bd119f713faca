"""The interface: each name is defined where the document lists it."""

import ast
import unittest
from pathlib import Path

PACKAGE = Path(__file__).resolve().parent.parent / "stirred"

OF_TRANSFERS = ["volumes", "transfers"]

FUNCTIONS = {
    "ratios": {"is_ratio": ["value"], "total": ["ratios"]},
    "vessels": {"is_volumes": ["value"], "is_transfers": ["value"], "is_possible": OF_TRANSFERS,
                "volumes_after": OF_TRANSFERS, "contents_after": OF_TRANSFERS, "shares_after": OF_TRANSFERS,
                "walk_contents": OF_TRANSFERS},
    "factors": {"factor_of": OF_TRANSFERS, "determinant": ["rows"], "mixture_for": ["rows", "vessel"],
                "is_mixture_for": ["rows", "vessel", "value"]},
    "origins": {"poured": OF_TRANSFERS + ["contents"], "origin_of": OF_TRANSFERS + ["contents"],
                "is_origin": OF_TRANSFERS + ["contents", "value"]},
    "exchange": {"foreign_in": OF_TRANSFERS + ["group"], "is_closed": OF_TRANSFERS, "rings_of": OF_TRANSFERS,
                 "are_rings": OF_TRANSFERS + ["value"]},
    "spread": {"substances_in": OF_TRANSFERS, "plan_for_all": ["volumes"], "fewest_for_all": ["vessels"],
               "brought_by": OF_TRANSFERS + ["vessel", "substance"]},
    "alike": {"are_free": ["one", "other"], "are_alike": ["transfers", "other"], "layers_of": ["transfers"],
              "least_alike": ["transfers"], "nth_alike": ["transfers", "index"], "count_alike": ["transfers"],
              "alike_rank": ["transfers"]},
    "pairs": {"difference_after": OF_TRANSFERS, "plan_for": ["volumes", "wanted"]},
    "trials": {"volumes_in_trial": ["lab", "transfers"], "passed": ["lab", "transfers"]},
    "text": {"format_ratio": ["ratio"], "format_transfers": ["transfers"], "format_rows": ["rows"],
             "table_of": OF_TRANSFERS, "parse_ratio": ["text"], "parse_transfers": ["text"]},
}

METHODS = {
    "ratios": {"Ratio": {"__init__": ["self", "top", "bottom"], "top": ["self"], "bottom": ["self"],
                         "__add__": ["self", "other"], "__sub__": ["self", "other"], "__mul__": ["self", "other"],
                         "__eq__": ["self", "other"], "__neg__": ["self"], "is_less": ["self", "other"],
                         "over": ["self", "other"]}},
    "mixtures": {"Mixture": {"__init__": ["self", "amounts"], "__add__": ["self", "other"],
                             "__mul__": ["self", "other"], "__contains__": ["self", "x"],
                             "__eq__": ["self", "other"], "__len__": ["self"], "volume": ["self"],
                             "substances": ["self"], "amount_of": ["self", "substance"],
                             "share_of": ["self", "substance"]}},
    "labs": {"Lab": {"__init__": ["self", "volumes"], "pour": ["self", "giver", "taker", "amount"], "undo": ["self"],
                     "tried": ["self"], "holds": ["self", "vessel"], "twin": ["self"], "described": ["self"],
                     "first_volumes": ["self"], "volumes": ["self"], "done": ["self"], "factor": ["self"],
                     "__len__": ["self"], "__eq__": ["self", "other"]},
             "CappedLab": {"__init__": ["self", "volumes", "cap"], "described": ["self"]},
             "SealedLab": {"__init__": ["self", "volumes", "sealed"], "described": ["self"]},
             "CappedSealedLab": {"__init__": ["self", "volumes", "cap", "sealed"]}},
    "trials": {"Trial": {"__init__": ["self", "lab"], "begin": ["self"], "finish": ["self"], "__enter__": ["self"],
                         "__exit__": ["self", "kind", "value", "trace"]}},
}

def body_of(name):
    return ast.parse((PACKAGE / f"{name}.py").read_text(encoding="utf-8")).body


def functions_in(body):
    """Return the names and the parameters of the functions that a body defines."""
    return {node.name: [arg.arg for arg in node.args.args] for node in body if isinstance(node, ast.FunctionDef)}


class Interface(unittest.TestCase):
    def check(self, found, wanted):
        for name in wanted:
            with self.subTest(name):
                self.assertEqual(found.get(name), wanted[name])

    def test_functions(self):
        for name in FUNCTIONS:
            self.check(functions_in(body_of(name)), FUNCTIONS[name])

    def test_methods_stand_in_the_class_itself(self):
        for name in METHODS:
            classes = {node.name: node for node in body_of(name) if isinstance(node, ast.ClassDef)}
            for word in METHODS[name]:
                self.check(functions_in(classes[word].body), METHODS[name][word])

    def test_the_star_of_tried(self):
        lab = [node for node in body_of("labs") if isinstance(node, ast.ClassDef) and node.name == "Lab"][0]
        tried = [node for node in lab.body if isinstance(node, ast.FunctionDef) and node.name == "tried"][0]
        self.assertEqual(tried.args.vararg.arg, "transfers")

    def test_properties(self):
        for name, word, wanted in [("ratios", "Ratio", ["bottom", "top"]),
                                   ("mixtures", "Mixture", ["substances", "volume"]),
                                   ("labs", "Lab", ["done", "factor", "first_volumes", "volumes"])]:
            node = [node for node in body_of(name) if isinstance(node, ast.ClassDef) and node.name == word][0]
            found = [method.name for method in node.body if isinstance(method, ast.FunctionDef) and any(
                isinstance(sign, ast.Name) and sign.id == "property" for sign in method.decorator_list)]
            self.assertEqual(sorted(found), wanted)


if __name__ == "__main__":
    unittest.main()
