"""Whether two programs do the same from every start, and whether a counter's end hangs on another one's start."""

from everystart.changes import difference_behind, row_with_nought
from everystart.effects import effect_form, first_powers, start_form
from everystart.errors import Unfit
from everystart.parts import gathered, put_part, row_with, without_form
from everystart.sums import with_nought


def alike(one, other):
    """Return None if one and other have the same shares, otherwise the first start and end at which they part."""
    if len(one[0]) != len(other[0]):
        raise Unfit()
    keys, form = start_form(len(one[0]), 0)
    return first_powers(keys, difference_behind(keys, form, one[1], other[1]))


def hangs(program, last, first):
    """Return None if last's number at the end tells nothing of first's at the start, otherwise where it does."""
    many = len(program[0])
    keys, form = effect_form(program, 0)
    spreads = gathered(keys, form, [place for place in range(many) if place != last])
    parting = first_powers(keys, without_form(spreads, _as_from_nought(keys, spreads, many + first)))
    if parting is None:
        return None
    start, end = parting
    return start, end[last]


def _as_from_nought(keys, form, place):
    """Return the form that has at each power of the name at place what form has at the power 0."""
    through = ((0, 1), (keys.unit(place), -1))
    found = {}
    for row, (above, below) in form.items():
        kept, number = row_with_nought(keys, row, place)
        put_part(found, row_with(kept, (through,)), with_nought(keys, above, place), below * number)
    return found
