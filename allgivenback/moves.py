"""Layouts of parcels in a range, and the moves that make room among them."""

from allgivenback.basics import BadValue, is_whole
from allgivenback.checks import is_exactly, is_flag, is_row, need_whole

MOST_HIGH = 16384
MOST_PARCELS = 400
MOST_NEED = 16386


def is_parcel(value):
    """True if the value is a tuple (start, size, pinned) as a layout has them."""
    if not isinstance(value, tuple) or len(value) != 3:
        return False
    start, size, pinned = value
    return is_whole(start) and is_whole(size) and size >= 1 and is_flag(pinned)


def are_parcels(low, high, value):
    """True if the value is a row of parcels that is a layout in the range."""
    if not is_row(value) or len(value) > MOST_PARCELS:
        return False
    edge = low
    for parcel in value:
        if not is_parcel(parcel) or parcel[0] < edge:
            return False
        edge = parcel[0] + parcel[1]
    return edge <= high


def need_layout(low, high, parcels):
    """Raises BadValue for the first argument that does not tell a layout in a range."""
    need_whole(low, 0, MOST_HIGH, "low")
    need_whole(high, low, MOST_HIGH, "high")
    if not are_parcels(low, high, parcels):
        raise BadValue("parcels")


def gaps_of(low, high, parcels):
    """A list of tuples (start, size) of all gaps, ascending, also of those without places."""
    gaps = []
    edge = low
    for start, size, _ in parcels:
        gaps.append((edge, start - edge))
        edge = start + size
    gaps.append((edge, high - edge))
    return gaps


def least_from(gaps, parcels, first, wanted):
    """The least load that makes room from the gap with that index on, and the last gap, or None."""
    room = 0
    load = 0
    for last in range(first, len(gaps)):
        room = room + gaps[last][1]
        if room >= wanted:
            return (load, last)
        if last < len(parcels):
            if parcels[last][2]:
                return None
            load = load + parcels[last][1]
    return None


def least_move(low, high, parcels, need):
    """The moves of the fewest words that free so many places side by side, and the first of these places, or None."""
    need_layout(low, high, parcels)
    need_whole(need, 1, MOST_NEED, "need")
    gaps = gaps_of(low, high, parcels)
    best = None
    for first in range(len(gaps)):
        found = least_from(gaps, parcels, first, need)
        if found is not None and (best is None or found[0] < best[0]):
            best = (found[0], first, found[1])
    if best is None:
        return None
    _, first, last = best
    edge = gaps[first][0]
    moves = []
    for start, size, _ in parcels[first:last]:
        moves.append((start, edge, size))
        edge = edge + size
    return (tuple(moves), edge)


def all_down(low, high, parcels):
    """The moves by which all unpinned parcels go down as far as they can."""
    need_layout(low, high, parcels)
    moves = []
    edge = low
    for start, size, pinned in parcels:
        target = start if pinned else edge
        if target != start:
            moves.append((start, target, size))
        edge = target + size
    return tuple(moves)


def free_rows(low, high, parcels):
    """A tuple (low, high, free) for each segment between the pinned parcels, ascending."""
    need_layout(low, high, parcels)
    gaps = gaps_of(low, high, parcels)
    rows = []
    first = low
    free = 0
    for (_, room), (start, size, pinned) in zip(gaps, parcels):
        free = free + room
        if pinned:
            rows.append((first, start, free))
            first = start + size
            free = 0
    rows.append((first, high, free + gaps[-1][1]))
    return tuple(rows)


def is_triple(value):
    """True if the value is a tuple of three integers."""
    return isinstance(value, tuple) and len(value) == 3 and all([is_whole(part) for part in value])


def are_moves(parcels, value):
    """True if the value is a tuple of moves of unpinned parcels, in ascending order of start."""
    if not isinstance(value, tuple) or not all([is_triple(move) for move in value]):
        return False
    sizes = {start: size for start, size, pinned in parcels if not pinned}
    last = -1
    for start, target, size in value:
        if start <= last or start == target or sizes.get(start) != size:
            return False
        last = start
    return True


def moved(low, high, parcels, moves):
    """The list of the parcels after the moves, or None if the moves are not right."""
    if not are_moves(parcels, moves):
        return None
    targets = {start: target for start, target, _ in moves}
    after = [(targets.get(start, start), size, pinned) for start, size, pinned in parcels]
    return after if are_parcels(low, high, after) else None


def after_moves(low, high, parcels, moves):
    """The list of the parcels after the moves, ascending."""
    need_layout(low, high, parcels)
    after = moved(low, high, parcels, moves)
    if after is None:
        raise BadValue("moves")
    return after


def words_moved(moves):
    """The sum of the sizes of the moves."""
    if not isinstance(moves, tuple) or not all([is_triple(move) and min(move) >= 0 for move in moves]):
        raise BadValue("moves")
    return sum([size for _, _, size in moves])


def is_move(low, high, parcels, need, plan):
    """True if the plan is a tuple (moves, gap) after which so many places from the gap on are free."""
    need_layout(low, high, parcels)
    need_whole(need, 1, MOST_NEED, "need")
    if not isinstance(plan, tuple) or len(plan) != 2 or not is_whole(plan[1]):
        return False
    moves, gap = plan
    after = moved(low, high, parcels, moves)
    if after is None or gap < low or gap + need > high:
        return False
    return all([start + size <= gap or gap + need <= start for start, size, _ in after])


def is_no_move(low, high, parcels, need, rows):
    """True if the rows are the free rows, and in none of them so many places are free."""
    need_layout(low, high, parcels)
    need_whole(need, 1, MOST_NEED, "need")
    due = free_rows(low, high, parcels)
    return is_exactly(rows, due) and all([free < need for _, _, free in due])
