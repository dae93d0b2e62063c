"""The names and arguments of the interface, and the files in which they are defined."""

import importlib
import inspect
import unittest

FUNCTIONS = {
    "poses": {
        "step": ["direction", "many"], "moved": ["position", "other"], "turned": ["position", "eighths"],
        "seen": ["pose", "other"], "laid": ["pose", "other"], "back": ["pose"],
    },
    "surds": {
        "east": ["position"], "north": ["position"], "surd_added": ["one", "other"], "surd_less": ["one", "other"],
        "surd_compared": ["one", "other"],
    },
    "rows": {
        "lead": ["pose", "row"], "poses_along": ["row"], "shuts": ["row"], "backwards": ["row"], "mirrored": ["row"],
        "turn": ["row"], "tally": ["row"],
    },
    "rowtext": {"short_text": ["row"], "read_short": ["text"]},
    "loops": {"least_word": ["row"], "same_loop": ["row", "other"], "symmetry": ["row"]},
    "closures": {
        "is_closure": ["row", "box", "other"], "shortest_closure": ["row", "box"], "closure_count": ["row", "box"],
    },
    "boxes": {"holds": ["box", "row"], "loops_of": ["box", "most"], "shut_count": ["many"]},
    "pieces": {"ends_of": ["kind", "pose"]},
    "layouttext": {"layout_text": ["layout"], "parse_layout": ["text"]},
    "samelayouts": {"word": ["layout"], "are_same": ["layout", "other"]},
    "motions": {"motions": ["layout"], "alike": ["layout"]},
    "joinings": {
        "is_joining": ["layout", "first", "second", "box", "row"], "shortest_joining": ["layout", "first", "second", "box"],
    },
    "inventories": {
        "pieces_of_layout": ["layout"], "pieces_of_row": ["row"], "left_of": ["box", "row"], "fullest_packing": ["box"],
    },
    "extents": {
        "extent": ["layout"], "size": ["layout"], "fits_on": ["layout", "width", "height"],
        "least_turn": ["layout", "width", "height"],
    },
    "trains": {
        "trains_of": ["layout"], "facing_round": ["train"], "step_train": ["layout", "thrown", "train"],
        "run_train": ["layout", "thrown", "train", "steps"], "cycle": ["layout", "thrown", "train"],
    },
    "routes": {
        "free_steps": ["layout", "train"], "shortest_route": ["layout", "train", "goal"], "reach": ["layout", "train"],
        "can_turn_round": ["layout", "train"], "judge_paper": ["layout", "train", "goal", "paper"],
        "make_paper": ["layout", "train", "goal"],
    },
    "papertext": {"paper_text": ["paper"], "parse_paper": ["text"]},
    "sides": {"judge_sides": ["layout", "paper"], "make_sides": ["layout"]},
    "settings": {"least_setting": ["layout", "train", "goal"]},
    "toggles": {
        "least_toggles": ["layout", "thrown", "train", "goal"], "leading": ["layout", "thrown", "train", "goal"],
    },
    "surveys": {"survey": ["layout"]},
    "meetings": {"first_meeting": ["layout", "thrown", "one", "other", "steps"]},
    "exchanges": {"exchange_steps": ["layout", "one", "other"], "exchange_plan": ["layout", "one", "other"]},
    "blocks": {"are_blocks": ["layout", "blocks"], "block_of": ["blocks", "piece"]},
    "floorlogs": {"replay_floor": ["text"]},
    "journal": {"replay": ["layout", "text"]},
}

CLASSES = {
    "layouts": {
        "Layout": {
            "__init__": [], "place": ["kind", "pose"], "lay": ["pose", "row"], "remove": ["number"], "undo": [], "layout": [],
            "ends": [], "joined": ["number", "end"], "open_ends": [], "islands": [], "is_shut": [],
        },
    },
    "runs": {
        "Run": {
            "__init__": ["layout"], "add": ["train"], "toggle": ["number"], "tick": [], "undo": [], "branch": [], "trains": [],
            "thrown": [], "clock": [], "forecast": ["most"], "journal": [],
        },
    },
    "blocks": {
        "BlockRun": {
            "__init__": ["layout", "blocks"], "add": ["train"], "toggle": ["number"], "undo": [], "trains": [], "thrown": [],
            "clock": [], "tick": [], "is_stuck": [],
        },
    },
    "floorlogs": {
        "FloorLog": {
            "__init__": [], "place": ["kind", "pose"], "lay": ["pose", "row"], "remove": ["number"], "undo": [], "layout": [],
            "journal": [],
        },
    },
}

ERRORS = {
    "RailError": None, "BadRow": "reason", "BadLayout": "place", "BadPiece": "reason", "BadTrain": "reason",
    "Collision": "pieces", "BadJournal": "place",
}


class Interface(unittest.TestCase):
    def test_functions(self):
        for module, functions in FUNCTIONS.items():
            there = importlib.import_module(f"railshut.{module}")
            for name, arguments in functions.items():
                with self.subTest(module=module, name=name):
                    function = getattr(there, name)
                    self.assertTrue(inspect.isfunction(function))
                    self.assertEqual(function.__module__, f"railshut.{module}")
                    self.assertEqual(list(inspect.signature(function).parameters), arguments)

    def test_classes(self):
        for module, classes in CLASSES.items():
            there = importlib.import_module(f"railshut.{module}")
            for name, methods in classes.items():
                one = getattr(there, name)
                self.assertTrue(inspect.isclass(one))
                self.assertEqual(one.__module__, f"railshut.{module}")
                for method, arguments in methods.items():
                    with self.subTest(name=name, method=method):
                        # It stands in the class itself, not only in a base class.
                        self.assertTrue(inspect.isfunction(vars(one)[method]))
                        self.assertEqual(list(inspect.signature(vars(one)[method]).parameters), ["self"] + arguments)

    def test_errors(self):
        there = importlib.import_module("railshut.errors")
        for name, field in ERRORS.items():
            with self.subTest(name=name):
                error = getattr(there, name)
                self.assertTrue(inspect.isclass(error))
                self.assertEqual(error.__module__, "railshut.errors")
                if field is not None:
                    self.assertEqual(list(inspect.signature(error).parameters), [field])
