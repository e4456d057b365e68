"""The interface: its names, where they are defined, and what their parameters are called."""

import importlib
import inspect
import unittest

# For each module: functions and classes by their parameters; methods by theirs.
INTERFACE = {
    "programs": {"Program": "text"},
    "tasks": {
        "Task": "text", "Task.ends": "lot", "Task.right": "brought said", "Task.__len__": "", "Task.__eq__": None,
        "within": "one other", "shows_within": "one other value", "renamed": "task pairs", "judged_house": "task house",
    },
    "houses": {
        "House": "program words boxes=()", "House.next": "hand", "House.answers": "hand", "House.step": "hand answer=None",
        "House.weave": "weaving", "House.copy": "", "House.__len__": "", "House.__eq__": None,
    },
    "runs": {
        "judged": "program words value boxes=()", "run_text": "run", "run_in": "text", "brought": "words run",
        "swapped": "run number", "alike": "one other lot",
    },
    "reads": {
        "Reads": "program words", "Reads.next": "hand", "Reads.step": "hand", "Reads.weave": "weaving", "Reads.copy": "",
        "Reads.__len__": "", "Reads.__eq__": None, "spans": "reads", "plain_run": "reads", "shows_plain_run": "reads value",
    },
    "levels": {
        "Levels": "many", "Levels.next": "hand", "Levels.step": "hand", "Levels.weave": "weaving", "Levels.copy": "",
        "Levels.__len__": "", "Levels.__eq__": None, "is_at_once": "many value", "weaving_to": "many row",
        "shows_weaving_to": "many row value", "every_row": "many", "row_at": "many number", "number_of": "many row",
        "chain": "many one other", "shows_chain": "many one other value",
    },
    "doors": {
        "Door": "many", "Door.come": "player value", "Door.step": "player", "Door.next": "player", "Door.copy": "",
        "Door.__len__": "", "Door.__eq__": None, "held_by": "door", "may_come": "door",
    },
    "players": {"Played": "program many *turns=None", "Played.__eq__": None, "forget": "house player"},
    "told": {
        "told": "house", "shows_told": "house value", "begun": "house", "held": "house", "behind": "house", "later": "one other",
        "told_through": "house",
    },
    "tables": {
        "Tabled": "many rounds table", "Tabled.__eq__": None, "views": "many rounds words", "wrong_row": "task tabled",
        "shows_wrong_row": "task tabled value", "decided": "task many rounds", "shows_decided": "task many rounds value",
    },
    "chains": {
        "chosen": "task", "shows_chosen": "task value", "rounds": "task", "plan": "task", "shows_plan": "task value",
        "made": "task", "shows_made": "task value",
    },
    "both": {
        "solved": "task many stops", "few": "program stops", "many_of": "program many", "same_by": "one other stops",
        "shows_same_by": "one other stops value", "wall": "many",
    },
    "boxes": {"Filled": "program box other", "Filled.__eq__": None, "outer": "house", "shows_outer": "house value"},
    "every": {
        "every_said": "program words", "wrong_weaving": "program task words",
        "shows_wrong_weaving": "program task words value", "stuck": "program words stops",
        "shows_stuck": "program words stops value",
    },
    "benches": {
        "Bench": "text words players=None", "Bench.__len__": "", "Bench.__contains__": None, "Bench.__eq__": None,
        "Bench.step": "hand", "Bench.weave": "weaving", "Bench.forget": "player", "Bench.stop": "hand", "Bench.go": "hand",
        "Bench.watch": "hand", "Bench.unwatch": "hand", "Bench.house": "", "Bench.story": "", "Bench.signs": "",
        "Bench.undo": "", "Bench.redo": "", "Bench.block": "", "Bench.keep": "", "Bench.tried": "look *keep=False",
        "Bench.copy": "",
    },
    "journals": {"journal": "bench", "read_journal": "text"},
    "desk": {"Desk": "text", "Desk.say": "line"},
}


def parameters(thing):
    """The parameters of a function or class, in words."""
    words = []
    for one in inspect.signature(thing).parameters.values():
        star = "*" if one.kind == one.KEYWORD_ONLY else ""
        words.append(star + one.name + ("" if one.default is one.empty else f"={one.default}"))
    return " ".join(words)


class Interface(unittest.TestCase):
    def test_names_are_defined_where_they_are_listed(self):
        for name, things in INTERFACE.items():
            module = importlib.import_module("fewplaymany." + name)
            for path in things:
                owner, _, method = path.partition(".")
                thing = getattr(module, owner)
                self.assertEqual(thing.__module__, module.__name__, path)
                if method:
                    self.assertIn(method, vars(thing), path)

    def test_parameters(self):
        for name, things in INTERFACE.items():
            module = importlib.import_module("fewplaymany." + name)
            for path, wanted in things.items():
                owner, _, method = path.partition(".")
                thing = getattr(module, owner)
                found = parameters(getattr(thing, method) if method else thing)
                if wanted is not None:
                    self.assertEqual(found, ("self " + wanted).strip() if method else wanted, path)


if __name__ == "__main__":
    unittest.main()
