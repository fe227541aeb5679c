"""The interface: each name where the document puts it, with its arguments."""

import importlib
import inspect
import unittest

FUNCTIONS = {
    "wishes": {"wish_of": ["told"]},
    "texts": {"show_plan": ["plan"], "read_plan": ["text"]},
    "board": {"picture": ["board"]},
    "routes": {"route": ["board", "caller", "target", "way"], "rings_of": ["plan"]},
    "deeds": {"do": ["board", "deed"], "refusal": ["board", "deed"]},
    "replay": {"replayed": ["plan", "hour", "log"]},
    "bills": {"bills": ["log"], "owed": ["log"]},
    "looker": {"choices": ["board"], "clashes": ["plan", "events"], "looked": ["plan", "hour", "most"]},
    "whatif": {"what_if": ["plan", "hour", "deeds", "switched"]},
    "sheet": {"read_sheet": ["text"]},
    "run": {"run": ["text"]},
}
WISH = {"told": [], "wants": [], "fits": ["board", "caller", "target"]}
CLASSES = {
    "errors": {
        "NoDeed": (["word"], {}),
        "NoSheet": (["line"], {}),
    },
    "wishes": {name: (["told"], WISH) for name in "Bar Shut Always Night Busy Silent Wait Breaks".split()},
    "plans": {
        "Plan": (["phones", "groups", "wishes"], {
            "names": [], "phone_names": [], "lines": ["phone"], "rank": ["phone"], "phones_of": ["name"],
            "manner": ["name"],
        }),
    },
    "board": {
        "Call": (["caller"], {}),
        "Board": (["plan", "hour"], {
            "used": ["phone"], "is_free": ["phone"], "waits_at": ["phone"], "talk_of": ["phone"], "bound": ["phone"],
            "calling": ["phone"], "ringable": ["caller", "target"], "hour_now": [], "apply": ["event"],
        }),
    },
}


def module(name):
    return importlib.import_module(f"callboard.{name}")


def arguments(function):
    return list(inspect.signature(function).parameters)


class Interface(unittest.TestCase):
    def test_functions(self):
        for name, functions in FUNCTIONS.items():
            for function, expected in functions.items():
                with self.subTest(module=name, function=function):
                    self.assertEqual(arguments(getattr(module(name), function)), expected)

    def test_classes_and_methods(self):
        for name, classes in CLASSES.items():
            for kind, (expected, methods) in classes.items():
                with self.subTest(module=name, kind=kind):
                    owner = getattr(module(name), kind)
                    self.assertEqual(arguments(owner), expected)
                    for method, parameters in methods.items():
                        self.assertEqual(arguments(getattr(owner, method)), ["self"] + parameters, method)

    def test_bases(self):
        wishes, errors = module("wishes"), module("errors")
        for name in CLASSES["wishes"]:
            self.assertTrue(issubclass(getattr(wishes, name), wishes.Wish))
        for name in ("NoPlan", "NoDeed", "NoSheet"):
            self.assertTrue(issubclass(getattr(errors, name), errors.CallError))

    def test_values(self):
        plan = module("plans").Plan([("a", 1, 0)], [], [(True, ("wait", "a"))])
        self.assertEqual((plan.phones, plan.groups, plan.on, len(plan.wishes)), ([("a", 1, 0)], [], [True], 1))
        board = module("board").Board(plan, 3)
        self.assertIs(board.plan, plan)
        self.assertEqual(
            (board.turn, board.calls, board.legs, board.nexts, board.on, board.log), (0, [], [], {}, [True], []),
        )
        call = module("board").Call("a")
        self.assertEqual(
            (call.state, call.caller, call.way, call.at, call.members, call.holder, call.since, call.word),
            ("rings", "a", [], [], [], None, 0, None),
        )


if __name__ == "__main__":
    unittest.main()
