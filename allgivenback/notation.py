"""Requests and their written form, a line for each."""

from allgivenback.basics import BadLine, is_user, is_whole
from allgivenback.checks import is_row, is_word, need
from allgivenback.spans import is_power

MOST_NUMBER = 999999999
MOST_REQUEST_ALIGN = 536870912
MOST_COUNT = 32
MOST_RIGHTS = 2
MOST_LETTERS = 4
MOST_DIGITS = 9
MOST_REQUESTS = 400
# The kinds of the parts behind the first word of each request.
FORMS = {
    "take": ("user", "name", "size", "align"),
    "resize": ("user", "name", "size"),
    "free": ("user", "name"),
    "pass": ("user", "name", "taker"),
    "put": ("user", "name", "offset", "word"),
    "get": ("user", "name", "offset"),
    "map": ("user", "name", "count"),
    "unmap": ("user", "name"),
    "share": ("user", "name", "taker"),
    "protect": ("user", "name", "rights"),
    "store": ("user", "name", "offset", "word"),
    "load": ("user", "name", "offset"),
    "out": ("user", "name"),
    "tick": (),
    "settle": (),
}


def is_name(value):
    """True if the value is a text of one to four letters a to z."""
    if not isinstance(value, str) or not 1 <= len(value) <= MOST_LETTERS:
        return False
    return all(["a" <= letter <= "z" for letter in value])


def is_number_part(kind, value):
    """True if the integer is a right part of that kind."""
    if kind == "user" or kind == "taker":
        return is_user(value)
    if kind == "size":
        return 1 <= value <= MOST_NUMBER
    if kind == "align":
        return is_power(value) and value <= MOST_REQUEST_ALIGN
    if kind == "offset":
        return 0 <= value <= MOST_NUMBER
    if kind == "word":
        return is_word(value)
    if kind == "count":
        return 1 <= value <= MOST_COUNT
    return 0 <= value <= MOST_RIGHTS


def is_part(kind, value):
    """True if the value is a right part of that kind."""
    if kind == "name":
        return is_name(value)
    return is_whole(value) and is_number_part(kind, value)


def is_request(value):
    """True if the value is a request."""
    if not isinstance(value, tuple) or not value or not isinstance(value[0], str) or value[0] not in FORMS:
        return False
    kinds = FORMS[value[0]]
    if len(value) != 1 + len(kinds):
        return False
    return all([is_part(kind, part) for kind, part in zip(kinds, value[1:])])


def are_requests(value):
    """True if the value is a row of requests, not too many."""
    return is_row(value) and len(value) <= MOST_REQUESTS and all([is_request(each) for each in value])


def is_sign(sign):
    """True if a text may have the character."""
    code = ord(sign)
    return sign == "\n" or (32 <= code <= 126 and code != 37)


def number_of(word):
    """The integer that the word writes, or None."""
    if not 1 <= len(word) <= MOST_DIGITS or not all(["0" <= digit <= "9" for digit in word]):
        return None
    if word[0] == "0" and len(word) > 1:
        return None
    return int(word)


def part_of(kind, word):
    """The part of that kind that the word writes, or None."""
    part = word if kind == "name" else number_of(word)
    return part if is_part(kind, part) else None


def column_of(words, at):
    """The column of the word with that index in its line."""
    return 1 + sum([len(word) + 1 for word in words[:at]])


def read_line(line, number, is_ended):
    """The request of a line; BadLine if it is not well formed or does not end with a newline."""
    words = line.split(" ")
    if words[0] not in FORMS:
        raise BadLine(number, 1)
    kinds = FORMS[words[0]]
    parts = [words[0]]
    for at, word in enumerate(words[1:], start=1):
        part = part_of(kinds[at - 1], word) if at <= len(kinds) else None
        if part is None:
            raise BadLine(number, column_of(words, at))
        parts.append(part)
    if words[0] == "take" and len(parts) == len(kinds):
        parts.append(1)
    if not is_ended or len(parts) <= len(kinds):
        raise BadLine(number, len(line) + 1)
    return tuple(parts)


def parse_requests(text):
    """A list of the requests that the text writes."""
    need(isinstance(text, str) and all([is_sign(sign) for sign in text]), "text")
    lines = text.split("\n")
    # What stands behind the last newline is a line only if it is not empty; then its own newline is missing.
    last = lines.pop()
    requests = [read_line(line, number, True) for number, line in enumerate(lines, start=1)]
    if last:
        requests.append(read_line(last, len(lines) + 1, False))
    return requests


def line_of(request):
    """The line of a request, with its newline."""
    parts = request[:-1] if request[0] == "take" and request[-1] == 1 else request
    return " ".join([str(part) for part in parts]) + "\n"


def print_requests(requests):
    """The written form of a row of requests."""
    need(are_requests(requests), "requests")
    return "".join([line_of(request) for request in requests])
