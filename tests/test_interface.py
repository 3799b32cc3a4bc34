"""Points 2 and 3: each name of the interface is defined where it is listed, with its arguments as written."""

import importlib
import inspect
import unittest

INTERFACE = {
    "exact": [
        "fraction(value)", "add(left, right)", "sub(left, right)", "mul(left, right)", "div(left, right)",
        "negate(value)", "compare(left, right)", "total(values)", "mean(values)", "least(values)", "greatest(values)",
        "clamp(value, low, high)", "blend(first, second, *, weight)", "dot(weights, values)", "whole_below(value)",
        "whole_above(value)",
    ],
    "words": [
        "number_text(value)", "read_number(text)", "is_name(text)", "check_name(text)", "split_line(line)",
        "join_words(words)",
    ],
    "rows": [
        "most_rounds(width)", "letters(width)", "is_row(text, rounds, *, width=2)", "rows_of(rounds, *, width=2)",
        "beginnings_of(rounds, *, width=2)", "all_beginnings(rounds, *, width=2)", "place_of(row, *, width=2)",
        "row_at(place, rounds, *, width=2)", "number_of(beginning, *, width=2)",
        "span_of(beginning, rounds, *, width=2)", "futures(beginning, rounds, *, width=2)",
        "shared_beginning(first, second)", "renamed(order, text)", "back_order(order)",
    ],
    "tables": [
        "Table(width, rounds, cells)", "flat(width, rounds, number)", "raised(table, number)",
        "changed(table, row, number)", "lesser(first, second)", "greater(first, second)",
        "mean_behind(table, beginning)", "means(table)", "behind(table, beginning)", "joined_parts(parts)",
        "renamed_table(order, table)", "first_above(table, other)", "is_below(table, other)", "lowest_rows(table)",
        "highest_rows(table)",
    ],
    "plans": [
        "Plan(width, rounds, shares)", "even_plan(width, rounds)", "sure_plan(width, row)", "round_plan(width, shares)",
        "ones_plan(rounds, ones)", "blended(first, second, *, weight)", "behind_plan(plan, beginning)",
        "root_plan(shares, plans)", "renamed_plan(order, plan)", "first_bad_share(width, rounds, shares)",
    ],
    "misses": [
        "miss(plan, beginning, outcome)", "row_misses(plan, beginning)", "miss_steps(plan, row)", "misses_table(plan)",
        "chance(foe, beginning)", "chances(foe)", "reached(foe)", "mean_under(foe, table)",
        "mean_misses(chooser, foe)", "least_misses(foe)", "best_reply(foe)", "even_misses(width, rounds)",
        "first_over(chooser, table)", "keeps(chooser, table)",
    ],
    "forms": ["table_text(table)", "plan_text(plan)", "read_table(text)", "read_plan(text)"],
    "exactly": [
        "gap(table, beginning)", "bars(table)", "has_even_mean(table)", "exact_share(zero, one)", "is_exact(table)",
        "exact_chooser(table)", "raised_to_even(table)", "past_misses(table, beginning)", "exact_paper(table)",
        "is_exact_paper(table, paper)",
    ],
    "folding": [
        "step(zero, one)", "step_share(zero, one)", "step_chances(zero, one)", "fold(table)",
        "fold_behind(table, beginning)", "folds(table)", "can_keep(table)", "lack(table)", "keeper(table)",
        "breaker(table)", "kept(table)",
    ],
    "papers": [
        "slack_table(chooser, table)", "least_slack(chooser, table)", "tight_rows(chooser, table)", "worth(foe, table)",
        "paper_text(paper)", "read_paper(text)", "bounds_paper(table)", "is_bounds_paper(table, paper)",
        "value_paper(table)", "is_value_paper(table, paper)",
    ],
    "filling": [
        "fill(levels)", "fill_shares(levels)", "filled(levels)", "fill_chances(levels)", "is_fill(levels, number)",
        "wide_fold(table)", "wide_behind(table, beginning)", "wide_folds(table)", "wide_keeper(table)",
        "wide_breaker(table)", "wide_value_paper(table)", "wide_bounds_paper(table)", "wide_tight_rows(chooser, table)",
        "exact_shares(levels)", "wide_bars(table)", "is_exact_wide(table)", "exact_chooser_wide(table)",
    ],
    "machines": [
        "Machine(width, tells, moves, *, start=0)", "run_states(machine, text)", "machine_misses(machine, text)",
        "machine_plan(machine, rounds)", "constant_machine(width, shares)", "last_machine(width, shares)",
        "machine_text(machine)", "read_machine(text)",
    ],
    "helpers": [
        "helper_misses(helpers, row)", "best_misses(helpers, row)", "best_helpers(helpers, row)",
        "first_best(helpers, row)", "best_table(helpers)", "distance(helpers)", "nearest_chooser(helpers)",
        "hard_foe(helpers)", "farthest(plan, helpers)", "is_within(plan, helpers, number)", "tight_for(plan, helpers)",
        "distance_paper(helpers)", "is_distance_paper(helpers, paper)",
    ],
    "stakes": [
        "Stakes(width, losses)", "Picks(width, rounds, ones)", "miss_stakes()", "picks_of(plan)", "plan_of(picks)",
        "stakes_step(stakes, levels)", "stakes_pick(stakes, levels)", "stakes_chances(stakes, levels)",
        "pick_losses(stakes, picks, beginning)", "losses_table(stakes, picks)", "stakes_fold(stakes, table)",
        "stakes_keeper(stakes, table)", "stakes_breaker(stakes, table)", "least_losses(stakes, foe)",
        "stakes_paper(stakes, table)", "is_stakes_paper(stakes, table, paper)", "stakes_best(stakes, helpers)",
        "stakes_distance(stakes, helpers)",
    ],
    "switches": [
        "switches_in(path)", "path_misses(helpers, row, path)", "path_plan(helpers, path)",
        "switch_misses(helpers, row, *, switches=1)", "best_path(helpers, row, *, switches=1)",
        "is_best(helpers, row, path, *, switches=1)", "switch_table(helpers, *, switches=1)",
        "switch_distance(helpers, *, switches=1)", "switch_chooser(helpers, *, switches=1)",
        "switch_foe(helpers, *, switches=1)",
    ],
    "sleepers": [
        "Sleeper(plan, awake)", "awake_rounds(sleeper, row)", "counted_misses(sleeper, row)",
        "behind_sleeper(chooser, sleeper, row)", "stood_in(sleeper, plan)", "speaker(sleepers, beginning)",
        "relay(sleepers, rest)", "are_apart(sleepers)", "farthest_behind(chooser, sleepers)",
        "stood_distance(sleepers, plan)",
    ],
    "horizons": [
        "joined(first, second)", "joined_all(tables)", "stretched(table, rounds)", "cut_row(row, lengths)",
        "stretch_misses(plan, row, lengths)", "doubling_lengths(rounds)", "anew(plan, lengths)", "restart_best(parts)",
        "restart_distance(parts)", "restart_chooser(parts)", "restart_foe(parts)",
    ],
    "anytime": [
        "end_ladder(table, number)", "best_ladder(helpers)", "anytime_folds(ladder)", "anytime_fold(ladder)",
        "anytime_chooser(ladder)", "anytime_foe(ladder)", "anytime_slack(chooser, ladder)",
        "endings(stops, rounds, *, width=2)", "stopped_misses(foe, stops)", "stopped_mean(foe, stops, ladder)",
        "anytime_paper(ladder)", "is_anytime_paper(ladder, paper)", "anytime_distance(helpers)",
    ],
    "sides": [
        "most_sided(sides, width)", "side_rows(rounds, *, sides=2)", "side_spots(rounds, *, sides=2, width=2)",
        "Sided(sides, width, rounds, tables)", "SidePlan(sides, width, rounds, shares)", "side_misses(plan, side, row)",
        "side_table(plan, side)", "unsided(plan, side)", "same_sided(sides, table)", "sided_fold(sided)",
        "ahead_fold(sided)", "sided_keeper(sided)", "sided_caller(sided)",
        "side_row_of(calls, row, *, sides=2, width=2)", "sided_slack(plan, sided)", "sided_paper(sided)",
        "is_sided_paper(sided, paper)", "sided_best(helpers)", "sided_distance(helpers)",
    ],
    "others": [
        "first_rule(helpers)", "leaders_rule(helpers)", "same_rule(helpers)", "most_rule(helpers)",
        "weights_rule(helpers, *, rate=(1, 2))", "helper_weights(helpers, beginning, *, rate=(1, 2))",
        "rivals(helpers)", "closest_rival(helpers)", "distance_table(plan, helpers)", "spread(table)",
        "weighed_spread(foe, table)", "spread_mean(pairs)", "rows_at(table, number)", "count_above(table, number)",
    ],
    "games": [
        "Game(chooser, bounds)", "journal_of(chooser, beginning)", "first_wrong_entry(journal, chooser)",
        "journal_text(journal, *, width=2)", "read_journal(text)", "is_journal(journal, chooser)",
    ],
    "changes": [
        "Folded(table)", "still_behind(helpers, beginning, misses)", "rest_chooser(helpers, beginning)",
        "put_in(helpers, newcomer, *, at=0)", "taken_out(helpers, at)",
    ],
    "lines": ["commands()", "parse_line(line)", "used_names(line)"],
    "book": ["Book()", "replayed(text)"],
    "audit": [
        "wrong_papers(book)", "audit(book)", "settled(book, name)", "audit_script(text, answers)",
        "differences(first, second)",
    ],
}

METHODS = {
    ("tables", "Table"): [
        "__init__", "__call__", "__len__", "__iter__", "__eq__", "__add__", "__sub__", "__mul__",
    ],
    ("plans", "Plan"): ["__init__", "__call__", "__len__", "__iter__", "__eq__", "__add__"],
    ("machines", "Machine"): ["__init__", "__eq__"],
    ("stakes", "Stakes"): ["__init__", "__call__", "__eq__"],
    ("stakes", "Picks"): ["__init__", "__call__", "__iter__", "__eq__"],
    ("sleepers", "Sleeper"): ["__init__", "__contains__"],
    ("sides", "Sided"): ["__init__", "__call__", "__eq__"],
    ("sides", "SidePlan"): ["__init__", "__call__", "__eq__"],
    ("games", "Game"): [
        "__init__", "__len__", "__iter__", "tell", "come", "play", "back", "close", "lead_on", "journal", "twin",
    ],
    ("changes", "Folded"): ["__init__", "behind", "change", "take_back", "moved"],
    ("book", "Book"): [
        "__init__", "__call__", "__len__", "__iter__", "__contains__", "do", "run", "names", "sort_of", "paper_table",
        "line_of", "script", "script_text", "undo", "twin",
    ],
}

# What the methods that are called by name take, behind their own object.
ARGUMENTS = {
    ("games", "Game"): {
        "tell": "", "come": "outcome", "play": "text", "back": "", "close": "", "lead_on": "chooser, bounds",
        "journal": "", "twin": "",
    },
    ("changes", "Folded"): {"behind": "beginning", "change": "row, number", "take_back": "", "moved": ""},
    ("book", "Book"): {
        "do": "line", "run": "text", "names": "", "sort_of": "name", "paper_table": "name", "line_of": "name",
        "script": "", "script_text": "", "undo": "", "twin": "", "__call__": "name",
    },
    ("sides", "Sided"): {"__call__": "side, row"},
    ("sides", "SidePlan"): {"__call__": "side, beginning"},
}


class Interface(unittest.TestCase):
    def test_functions_and_classes(self):
        for file, entries in INTERFACE.items():
            module = importlib.import_module(f"notbehind.{file}")
            for entry in entries:
                name, bracket, arguments = entry.partition("(")
                with self.subTest(file=file, entry=entry):
                    thing = getattr(module, name)
                    self.assertEqual(thing.__module__, f"notbehind.{file}")
                    self.assertEqual(str(inspect.signature(thing)), bracket + arguments)

    def test_methods_stand_in_the_class_itself(self):
        for (file, name), methods in METHODS.items():
            thing = getattr(importlib.import_module(f"notbehind.{file}"), name)
            for method in methods:
                with self.subTest(name=name, method=method):
                    self.assertIn(method, vars(thing))

    def test_arguments_of_methods(self):
        for (file, name), methods in ARGUMENTS.items():
            thing = getattr(importlib.import_module(f"notbehind.{file}"), name)
            for method, arguments in methods.items():
                with self.subTest(name=name, method=method):
                    due = ", ".join(["self", *[arguments] * (arguments != "")])
                    self.assertEqual(str(inspect.signature(vars(thing)[method])), f"({due})")


if __name__ == "__main__":
    unittest.main()
