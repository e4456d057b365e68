"""The interface: its names, where they are defined, and what their parameters are called."""

import importlib
import inspect
import unittest

# For each module: functions and classes by their parameters; methods by theirs.
INTERFACE = {
    "programs": {"Program": "text"},
    "tasks": {
        "Task": "text", "Task.ends": "lot", "Task.right": "brought said", "Task.__len__": "", "Task.__eq__": None,
        "within": "one other", "shows_within": "one other value", "renamed": "task pairs", "judged_house": "task house",
    },
    "houses": {
        "House": "program words boxes=()", "House.next": "hand", "House.answers": "hand", "House.step": "hand answer=None",
        "House.weave": "weaving", "House.copy": "", "House.__len__": "", "House.__eq__": None,
    },
    "runs": {
        "judged": "program words value boxes=()", "run_text": "run", "run_in": "text", "brought": "words run",
        "swapped": "run number", "alike": "one other lot",
    },
    "reads": {
        "Reads": "program words", "Reads.next": "hand", "Reads.step": "hand", "Reads.weave": "weaving", "Reads.copy": "",
        "Reads.__len__": "", "Reads.__eq__": None, "spans": "reads", "plain_run": "reads", "shows_plain_run": "reads value",
    },
    "levels": {
        "Levels": "many", "Levels.next": "hand", "Levels.step": "hand", "Levels.weave": "weaving", "Levels.copy": "",
        "Levels.__len__": "", "Levels.__eq__": None, "is_at_once": "many value", "weaving_to": "many row",
        "shows_weaving_to": "many row value", "every_row": "many", "row_at": "many number", "number_of": "many row",
        "chain": "many one other", "shows_chain": "many one other value",
    },
    "doors": {
        "Door": "many", "Door.come": "player value", "Door.step": "player", "Door.next": "player", "Door.copy": "",
        "Door.__len__": "", "Door.__eq__": None, "held_by": "door", "may_come": "door",
    },
    "players": {"Played": "program many *turns=None", "Played.__eq__": None, "forget": "house player"},
    "told": {
        "told": "house", "shows_told": "house value", "begun": "house", "held": "house", "behind": "house", "later": "one other",
        "told_through": "house",
    },
}


def parameters(thing):
    """The parameters of a function or class, in words."""
    words = []
    for one in inspect.signature(thing).parameters.values():
        star = "*" if one.kind == one.KEYWORD_ONLY else ""
        words.append(star + one.name + ("" if one.default is one.empty else f"={one.default}"))
    return " ".join(words)


class Interface(unittest.TestCase):
    def test_names_are_defined_where_they_are_listed(self):
        for name, things in INTERFACE.items():
            module = importlib.import_module("fewplaymany." + name)
            for path in things:
                owner, _, method = path.partition(".")
                thing = getattr(module, owner)
                self.assertEqual(thing.__module__, module.__name__, path)
                if method:
                    self.assertIn(method, vars(thing), path)

    def test_parameters(self):
        for name, things in INTERFACE.items():
            module = importlib.import_module("fewplaymany." + name)
            for path, wanted in things.items():
                owner, _, method = path.partition(".")
                thing = getattr(module, owner)
                found = parameters(getattr(thing, method) if method else thing)
                if wanted is not None:
                    self.assertEqual(found, ("self " + wanted).strip() if method else wanted, path)


if __name__ == "__main__":
    unittest.main()
