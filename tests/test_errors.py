"""The error classes, and where the names of the interface are defined."""

import ast
import importlib
import pathlib

from jumpcuts import errors

from tests.plain import PlainCase

FIELDS = {
    "BadFilm": "place", "BadPlace": None, "BadCuts": "index", "BadNumber": None, "TooLong": "most", "BadFilms": None,
    "BadWeb": "index", "BadLetter": None, "NoWalk": None, "NoWay": None, "BadNames": None, "NotText": None,
    "InvalidText": "place", "BadGoal": None, "CannotCut": None, "NothingToUndo": None,
}
INTERFACE = {
    "films": "kinds is_last places next_like first_again",
    "cuts": "cuts cut next_films play films_on_the_way kept_places",
    "partings": "comes is_parting ends stuck blocks count_partings parting_at rank_of_parting",
    "numbers": "fewest_cuts most_cuts block_most some_cuts shows_cuts most_in_all cut_numbers",
    "limits": "partings_by_cuts comes_within evenest longest_block cheapest kept_ends",
    "tight": "tight_cuts tight_next is_tight_row tight_row fewest_tight tight_numbers",
    "outcomes": "count_outcomes count_of_length count_with outcomes outcome_at rank_of lengths shortest_length "
                "shortest last_outcomes always",
    "worths": "worth count_beginning count_ending count_holding count_unlike count_letters greatest_worth least_worth",
    "sets": "by_letters count_just shortest_without longest_without next_outcome letter_range agreement",
    "befores": "count_befores count_common befores_to befores common shortest_before longest_common meets",
    "mends": "fewest_put_in fewest_mends fewest_left_out fewest_changed one_letter_more one_letter_less",
    "several": "count_all_common count_befores_of_all all_common shortest_all_common futures",
    "order": "row_numbers count_rows count_all_rows order_height sign_sum nim covers between winning_films wins "
             "game_lengths",
    "chances": "visit_chance mean_cuts mean_last_length mean_length last_chances chances_behind",
    "middles": "count_between nim_of_all first_missing between_lengths winning_cuts nim_counts is_between one_cut_off "
               "turned_wins",
    "census": "count_pairs count_last count_squeezed outcome_census cuts_census richest film_at film_rank",
    "rings": "ring_name same_ring is_last_ring ring_comes ring_period ring_partings ring_shortest ring_fewest "
             "ring_next ring_outcomes",
    "walks": "is_walk count_walks walks_to count_loop_cut paths web_of loop_cut back_cut loops",
    "drawn": "path_chance mean_path mean_steps visit_mean meets_first",
    "glue": "renamed plain joined repeated squeezed alike joins_freely runs inner_letters pairs_of",
    "texts": "write write_cuts read read_cuts",
    "desks": "Desk",
    "errors": "CutError " + " ".join(FIELDS),
}
FOLDER = pathlib.Path(errors.__file__).parent


class Errors(PlainCase):

    def test_base(self):
        self.assertEqual(errors.CutError.__bases__, (ValueError,))

    def test_direct_subclasses(self):
        for name in FIELDS:
            self.assertEqual(getattr(errors, name).__bases__, (errors.CutError,), name)

    def test_fields(self):
        for name, field in FIELDS.items():
            made = getattr(errors, name)
            if field is None:
                self.assertEqual(vars(made()), {}, name)
            else:
                self.assertEqual(vars(made(7)), {field: 7}, name)
                self.assertEqual(vars(made(None)), {field: None}, name)

    def test_no_other_errors(self):
        found = [name for name, value in vars(errors).items() if isinstance(value, type)]
        self.assertEqual(sorted(found), sorted(["CutError", *FIELDS]))


class Layout(PlainCase):

    def test_names_are_defined_where_they_are_listed(self):
        for name, listed in INTERFACE.items():
            tree = ast.parse((FOLDER / f"{name}.py").read_text())
            defined = [row.name for row in tree.body if isinstance(row, (ast.FunctionDef, ast.ClassDef))]
            for one in listed.split():
                self.assertEqual(defined.count(one), 1, (name, one))
                self.assertTrue(callable(getattr(importlib.import_module(f"jumpcuts.{name}"), one)))

    def test_methods_stand_in_their_class(self):
        tree = ast.parse((FOLDER / "desks.py").read_text())
        desk = [row for row in tree.body if isinstance(row, ast.ClassDef)][0]
        defined = [row.name for row in desk.body if isinstance(row, ast.FunctionDef)]
        for name in "cut undo change is_open left good best now goal undoable".split():
            self.assertEqual(defined.count(name), 1, name)

    def test_folder_holds_files_of_the_package_alone(self):
        found = [path for path in FOLDER.rglob("*") if "__pycache__" not in path.parts and not path.suffix == ".py"]
        self.assertEqual(found, [])
        self.assertTrue((FOLDER / "__init__.py").is_file())

    def test_sizes(self):
        for path in FOLDER.rglob("*.py"):
            text = path.read_text(encoding="ascii")
            lines = text.split("\n")
            self.assertLess(len(lines), 401, path)
            self.assertLess(max(len(line) for line in lines), 121, path)
            for row in ast.walk(ast.parse(text)):
                if isinstance(row, ast.FunctionDef):
                    self.assertLess(row.end_lineno - row.lineno, 40, (path, row.name))
