"""Changes: edits of programs, and the least sets of them that make programs right."""

from handlesagain.checks import is_index, is_listing
from handlesagain.crowds import Crowd
from handlesagain.errors import HandleError, InvalidEdit
from handlesagain.programs import DEEDS, Program, Sort
from handlesagain.verdicts import is_right

GUARD = "guard"
MOST_EDITS = 6


def edited(program, edits):
    """Return the program behind some edits, which are made at once."""
    if not is_listing(edits):
        raise InvalidEdit(edits)
    ahead = []
    for edit in edits:
        if not _is_edit(program, edit) or not all([_can_join(edit, other) for other in ahead]):
            raise InvalidEdit(edit)
        ahead.append(edit)
    sorts = [_edited_sort(sort, [edit for edit in ahead if edit[1] == sort.name]) for sort in program.sorts]
    common = program.common
    locks = program.locks
    if GUARD not in locks and any([edit[0] == "guard" for edit in ahead]):
        locks = (*locks, GUARD)
    return Program(*sorts, common=common, locks=locks)


def _is_edit(program, value):
    """Whether any value is an edit of a program."""
    # An object of another kind might not bear a comparison.
    if not isinstance(value, tuple) or len(value) < 3 or not isinstance(value[0], str) or value[1] not in program:
        return False
    sort = program[value[1]]
    if value[0] == "guard":
        return len(value) == 4 and _can_guard(sort, value[2], value[3])
    if len(value) != 3 or not is_index(value[2], len(sort)):
        return False
    return value[0] == "skip" or (value[0] == "drop" and sort[value[2]][0] in DEEDS)


def _can_guard(sort, first, last):
    """Whether any two values are the first and the last row of a stretch of a sort that can have a guard."""
    if not is_index(last, len(sort)) or not is_index(first, last + 1):
        return False
    if any([row[0] in ("lock", "unlock", "go") for row in sort.rows[first:last + 1]]):
        return False
    goals = [goal for row in sort.rows if row[0] == "go" for goal in row[1:]]
    return not any([first < goal <= last for goal in goals])


def _can_join(edit, other):
    """Whether two edits can be made together."""
    if edit[1] != other[1] or (edit[0] == "guard") != (other[0] == "guard"):
        return True
    # The last item is the last row of a stretch, or the only row.
    return edit[2] > other[-1] or other[2] > edit[-1]


def _edited_sort(sort, edits):
    """The sort behind edits of it."""
    rows = list(sort.rows)
    firsts = []
    lasts = []
    for edit in edits:
        at = edit[2]
        if edit[0] == "guard":
            firsts.append(at)
            lasts.append(edit[3])
        else:
            rows[at] = ("rest",) if edit[0] == "skip" else ("drop", rows[at][1])
    found = _guarded(rows, firsts, lasts)
    return Sort(sort.name, found, own=sort.own)


def _guarded(rows, firsts, lasts):
    """The list of the rows with guards, from some first rows to some last ones, and with goes counted anew."""
    found = []
    # The number of each row from now on, and that of the end; it is that of the taking of a lock ahead of the row.
    numbers = []
    for at, row in enumerate(rows):
        numbers.append(len(found))
        if at in firsts:
            found.append(("lock", GUARD))
        found.append(row)
        if at in lasts:
            found.append(("unlock", GUARD))
    numbers.append(len(found))
    return [_counted_anew(row, numbers) for row in found]


def _counted_anew(row, numbers):
    """The row with new numbers of rows, if it is a go."""
    if row[0] != "go":
        return row
    return ("go",) + tuple([numbers[goal] for goal in row[1:]])


def is_cure(program, edits, *, turns=1):
    """Whether the crowd behind some edits is right."""
    return is_right(Crowd(edited(program, edits), turns=turns))


def least_changes(program, menu, *, turns=1):
    """Return the list of the tuples of edits of a menu that are a cure, and no proper part of which is one."""
    if not is_listing(menu) or len(menu) > MOST_EDITS:
        raise InvalidEdit(menu)
    ahead = []
    for edit in menu:
        if not _is_edit(program, edit) or edit in ahead:
            raise InvalidEdit(edit)
        ahead.append(edit)
    cures = []
    for places in _sets_of_places(len(ahead)):
        if not any([_is_part(cure, places) for cure in cures]):
            edits = [ahead[at] for at in places]
            if _makes_right(program, edits, turns):
                cures.append(places)
    return [tuple([ahead[at] for at in places]) for places in cures]


def _sets_of_places(many):
    """The list of the tuples of unlike places, ascending, the shorter ones first, then in list order."""
    found = []
    level = [()]
    while level:
        found.extend(level)
        level = [(*places, at) for places in level for at in range(many) if not places or at > places[-1]]
    return found


def _is_part(places, others):
    """Whether each of the places is among the others."""
    return all([at in others for at in places])


def _makes_right(program, edits, turns):
    """Whether edits can be made together and are a cure."""
    try:
        behind = edited(program, edits)
    except HandleError:
        return False
    return is_right(Crowd(behind, turns=turns))
