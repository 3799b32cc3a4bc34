"""Tables, plans and helpers of all forms that several tests work with."""

from notbehind.plans import Plan
from notbehind.tables import Table
from support import some_numbers, some_shares


def some_table(width, rounds, seed=1):
    return Table(width, rounds, some_numbers(width ** rounds, seed))


def some_plan(width, rounds, seed=1):
    return Plan(width, rounds, some_shares(width, rounds, seed))


def some_helpers(width, rounds, many, seed=1):
    return [some_plan(width, rounds, seed + 3 * at) for at in range(many)]
