"""Tests that the interface stands where the document lists it: names, parameters, methods of each class itself."""

import importlib
import inspect
import unittest

# Functions and classes by module, with their parameters as the document writes them.
CALLS = {
    "errors": {
        "LinkError": None, "BadDeed": "part", "BadRow": "part", "BadEnd": "part", "BadChannel": "part",
        "BadLink": "part", "BadStep": "part", "BadRun": "part", "BadPicture": "part", "BadCount": "value",
        "BadLog": "at", "BadBench": "part", "BadText": "line, word", "BadCommand": "word", "BadName": "value",
        "NoName": "name", "NoRow": "at", "Blocked": "word", "Nothing": None, "TooMany": "what, most",
    },
    "checks": {
        "is_integer": "value", "is_within": "value, least, most", "is_state": "value", "is_box": "value",
        "is_number": "value", "is_name": "value",
    },
    "deeds": {
        "Deed": "", "Take": "box", "Send": "box, number", "Put": "box", "Out": "box", "Answer": "number",
        "Move": "box, to", "Clear": "box",
    },
    "rows": {"Row": "state, *deeds, then, hear=None, empty=(), full=()"},
    "ends": {"End": None, "Sender": "*rows", "Receiver": "*rows"},
    "channels": {
        "Fault": "", "Loses": "", "Doubles": "", "Overtakes": "by", "Channel": "capacity, *faults",
        "channels_of": "capacity",
    },
    "links": {"Link": "sender, receiver, down, up"},
    "steps": {"Step": "", "Act": "side, at", "Hear": "side, at, place=0, stays=False", "Lose": "way, place"},
    "runs": {"Run": "link, messages=()"},
    "pictures": {
        "start": "link, marks", "is_picture": "link, value", "Change": "step, sign, then, breaks",
        "moves": "link, picture", "reached": "link, marks, limit=5000", "unmarked": "picture",
    },
    "judged": {"Verdict": "", "judge": "link, limit=5000", "Kept": "one, two", "Broken": "steps"},
    "look_judged": {"shows_judged": "link, value"},
    "going": {"goes_on": "link, limit=5000", "Goes": "ranks", "Stuck": "steps, mark, lot"},
    "look_going": {"shows_going": "link, value"},
    "borne": {"borne": "link, way, limit=5000", "Borne": "kept, broken"},
    "look_borne": {"shows_borne": "link, way, value"},
    "families": {
        "one_by_one": "numbers", "all_so_far": "window, numbers", "each_by_itself": "window, numbers",
        "least_numbers": "kind, window, down, up, limit=5000",
    },
    "used": {
        "idle_rows": "link, limit=5000", "Idle": "table, rows", "first_use": "link, side, at, limit=5000",
        "without_idle": "link, limit=5000",
    },
    "look_used": {"shows_idle": "link, value"},
    "logs": {
        "log_of": "run", "first_wrong": "link, log, limit=5000", "explained": "link, log, limit=5000",
        "next_entries": "link, log, limit=5000",
    },
    "bench": {"Bench": "sender, receiver"},
    "texts": {"link_text": "link", "steps_text": "steps", "verdict_text": "verdict"},
    "reader": {"read_link": "text", "read_steps": "text", "read_verdict": "text"},
    "desk": {"Desk": ""},
}

DEED = {
    "verb": "self", "is_for": "self, side", "named_boxes": "self", "named_numbers": "self",
    "renumbered": "self, table", "__eq__": None, "__str__": None,
}
STEP = {"is_fault": "property", "__eq__": None, "__str__": None}
FAULT = {"__eq__": None, "__str__": None}
PAPER = {"__init__": None, "__eq__": None}
VERDICT = {**PAPER, "__bool__": None}

# Methods by module and class, with their parameters; "property" for a property.
METHODS = {
    "deeds": {
        "Deed": {**DEED, "read": "text"},
        **{name: DEED for name in ("Take", "Send", "Put", "Out", "Answer", "Move", "Clear")},
    },
    "rows": {"Row": {
        "sides": "self", "named_boxes": "self", "named_numbers": "self", "takes": "property",
        "renumbered": "self, table", "__eq__": None, "__lt__": None, "__str__": None, "read": "text",
    }},
    "ends": {
        "End": {
            "__len__": None, "__iter__": None, "__getitem__": None, "__contains__": None, "__add__": None,
            "__sub__": None, "with_row": "self, at, row", "without_row": "self, at", "at_state": "self, state",
            "boxes": "property", "states": "property", "numbers": "property", "renumbered": "self, table",
            "__eq__": None, "__str__": None,
        },
        "Sender": {"__init__": None, "read": "text"},
        "Receiver": {"__init__": None, "read": "text"},
    },
    "channels": {
        "Fault": FAULT, "Loses": FAULT, "Doubles": FAULT, "Overtakes": {"__init__": None, **FAULT},
        "Channel": {
            "loses": "property", "doubles": "property", "overtakes": "property", "__iter__": None,
            "__contains__": None, "__add__": None, "__sub__": None, "__and__": None, "__or__": None,
            "within": "self, other", "__eq__": None, "__str__": None, "read": "text",
        },
    },
    "links": {"Link": {
        "mixed": "self, other", "within": "self, other", "with_channels": "self, down=None, up=None",
        "renumbered": "self, table", "__eq__": None,
    }},
    "steps": {"Step": {**STEP, "read": "text"}, "Act": STEP, "Hear": STEP, "Lose": STEP},
    "runs": {"Run": {
        "__init__": None, "do": "self, step", "__iadd__": None, "blocked": "self, step", "undo": "self",
        "open_steps": "self", "done": "property", "took": "property", "outs": "property", "out": "property",
        "is_true": "property", "state_of": "self, side", "boxes_of": "self, side", "letters": "self",
        "answers": "self", "seen": "self, *marked", "trial": "self", "tried": "self, work", "twin": "self",
        "of": "link, steps, messages=None",
    }},
    "pictures": {"Change": PAPER},
    "judged": {"Verdict": {}, "Kept": VERDICT, "Broken": VERDICT},
    "going": {"Goes": VERDICT, "Stuck": VERDICT},
    "borne": {"Borne": PAPER},
    "used": {"Idle": PAPER},
    "bench": {"Bench": {
        "__init__": None, "add": "self, side, row", "drop": "self, side, at", "__getitem__": None, "__setitem__": None,
        "undo": "self", "__len__": None, "__bool__": None, "room": "property", "make_room": "self, number", "ends": "self",
        "twin": "self", "trial": "self", "tried": "self, work", "__eq__": None,
    }},
    "desk": {"Desk": {
        "__init__": None, "say": "self, line", "__call__": None, "run_lines": "self, *lines", "names": "property",
        "__len__": None,
    }},
}


GENERATORS = {"ends": ["End.at_state"], "channels": ["channels_of"], "runs": ["Run.open_steps"], "pictures": ["moves"]}


class TestInterface(unittest.TestCase):

    def test_generators(self):
        for module, names in GENERATORS.items():
            for name in names:
                found = importlib.import_module(f"markedpair.{module}")
                for part in name.split("."):
                    found = getattr(found, part)
                self.assertTrue(inspect.isgeneratorfunction(found), name)

    def test_functions_and_classes_with_their_parameters(self):
        for module, calls in CALLS.items():
            for name, parameters in calls.items():
                found = getattr(importlib.import_module(f"markedpair.{module}"), name)
                self.assertEqual(found.__module__, f"markedpair.{module}", name)
                if parameters is not None:
                    self.assertEqual(str(inspect.signature(found)), f"({parameters})", name)

    def test_methods_stand_in_their_classes(self):
        for module, classes in METHODS.items():
            for name, methods in classes.items():
                body = vars(getattr(importlib.import_module(f"markedpair.{module}"), name))
                for method, parameters in methods.items():
                    self.assertIn(method, body, name)
                    if parameters == "property":
                        self.assertIsInstance(body[method], property, (name, method))
                    elif parameters is not None:
                        self.assertEqual(self.parameters_of(body[method]), parameters, (name, method))

    def parameters_of(self, method):
        if isinstance(method, classmethod):
            return str(inspect.signature(method.__func__))[1:-1].removeprefix("cls, ")
        if isinstance(method, staticmethod):
            return str(inspect.signature(method.__func__))[1:-1]
        return str(inspect.signature(method))[1:-1]
