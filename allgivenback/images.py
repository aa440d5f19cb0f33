"""Images of a ground, and the change rows that lead from one image to another."""

from allgivenback.basics import is_holder, is_whole
from allgivenback.checks import is_word, need

WIDTHS = (16, 32, 64)
MOST_PAGES = 256
MOST_TOP = 16384


def is_width(value):
    """True if the value is a number of words that a page can have."""
    return is_whole(value) and value in WIDTHS


def fits_pages(count, width):
    """True if so many places are a right number of pages of the width."""
    return count % width == 0 and 1 <= count // width <= MOST_PAGES


def distinct(values):
    """The different integers of a tuple, or None if one of the values is no integer."""
    if not all([is_whole(value) for value in values]):
        return None
    return sorted(set(values))


def are_words(values):
    """True if all values of a tuple are words."""
    # Most places of a ground are alike, so it is much quicker to judge each different integer once.
    numbers = distinct(values)
    return numbers is not None and all([is_word(number) for number in numbers])


def are_holders(values):
    """True if all values of a tuple are holders."""
    numbers = distinct(values)
    return numbers is not None and all([is_holder(number) for number in numbers])


def is_image(value):
    """True if the value is a tuple (width, fill, words, holders) as a ground tells it."""
    if not isinstance(value, tuple) or len(value) != 4:
        return False
    width, fill, words, holders = value
    if not is_width(width) or not is_word(fill):
        return False
    if not isinstance(words, tuple) or not isinstance(holders, tuple):
        return False
    if len(words) != len(holders) or not fits_pages(len(words), width):
        return False
    return are_words(words) and are_holders(holders)


def is_change(row):
    """True if the row is a tuple (place, word, holder, new_word, new_holder) that tells a difference."""
    if not isinstance(row, tuple) or len(row) != 5:
        return False
    place, word, holder, new_word, new_holder = row
    if not is_whole(place) or not 0 <= place < MOST_TOP:
        return False
    if not is_word(word) or not is_holder(holder):
        return False
    if not is_word(new_word) or not is_holder(new_holder):
        return False
    return word != new_word or holder != new_holder


def is_changes(value):
    """True if the value is a list of change rows in ascending order of place, each place once."""
    if not isinstance(value, list):
        return False
    last = -1
    for row in value:
        if not is_change(row) or row[0] <= last:
            return False
        last = row[0]
    return True


def changes(before, after):
    """The change rows of all places at which two images differ."""
    need(is_image(before), "before")
    need(is_image(after) and after[:2] == before[:2] and len(after[2]) == len(before[2]), "after")
    rows = []
    for place in range(len(before[2])):
        old = (before[2][place], before[3][place])
        new = (after[2][place], after[3][place])
        if old != new:
            rows.append((place,) + old + new)
    return rows


def put_rows(words, holders, rows):
    """Puts the new words and holders of change rows into two lists; False at the first row that does not fit."""
    for place, word, holder, new_word, new_holder in rows:
        if place >= len(words) or words[place] != word or holders[place] != holder:
            return False
        words[place] = new_word
        holders[place] = new_holder
    return True


def image_after(image, steps):
    """The image with several lists of change rows applied, one after the other, or None if one does not fit."""
    width, fill, old_words, old_holders = image
    words = list(old_words)
    holders = list(old_holders)
    if not all([put_rows(words, holders, rows) for rows in steps]):
        return None
    return (width, fill, tuple(words), tuple(holders))


def apply_changes(image, rows):
    """The image with the new words and holders of the rows, which must fit it."""
    need(is_image(image), "image")
    need(is_changes(rows), "rows")
    after = image_after(image, [rows])
    need(after is not None, "rows")
    return after


def invert(rows):
    """The rows that lead back."""
    need(is_changes(rows), "rows")
    return [(place, new_word, new_holder, word, holder) for place, word, holder, new_word, new_holder in rows]


def join_changes(first, second):
    """The rows that lead from before the first to after the second, which must fit the first."""
    need(is_changes(first), "first")
    need(is_changes(second), "second")
    joined = {row[0]: row for row in first}
    for row in second:
        place = row[0]
        if place in joined:
            before = joined[place]
            need(before[3:] == row[1:3], "second")
            joined[place] = before[:3] + row[3:]
        else:
            joined[place] = row
    rows = [joined[place] for place in sorted(list(joined))]
    return [row for row in rows if row[1:3] != row[3:]]
