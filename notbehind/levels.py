"""One unit poured over levels, one level for each outcome; the levels are checked fractions."""

from notbehind.ratios import ONE, ZERO, is_less, minus, plus, sum_of, times


def height_over(levels):
    """The height of the unit if it lies over all of the levels."""
    return times(plus(ONE, sum_of(levels)), (1, len(levels)))


def height_of(levels):
    """The height of the unit, which lies over the levels below it."""
    below = levels
    while True:
        height = height_over(below)
        lower = [level for level in below if is_less(level, height)]
        if len(lower) == len(below):
            return height
        # Without the levels that stick out the unit stands lower, so that others may stick out.
        below = lower


def step_of(levels):
    """The step of the levels."""
    return minus(height_of(levels), ONE)


def shares_of(levels):
    """The tuple of the depths of the unit over the levels."""
    height = height_of(levels)
    return tuple([minus(height, level) if is_less(level, height) else ZERO for level in levels])


def filled_in(levels):
    """The list of the outcomes, integers, whose levels are at most the height."""
    height = height_of(levels)
    return [outcome for outcome, level in enumerate(levels) if not is_less(height, level)]


def chances_of(levels):
    """The tuple of equal chances of the filled outcomes."""
    outcomes = filled_in(levels)
    chance = (1, len(outcomes))
    return tuple([chance if outcome in outcomes else ZERO for outcome in range(len(levels))])
