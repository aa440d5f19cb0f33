"""The twin: an ideal giver that keeps a list of spans, and a judge of what a session told."""

from allgivenback.basics import NotHeld, StoreError, Unknown, is_user, is_whole
from allgivenback.checks import is_exactly, is_row, is_word, need, need_whole
from allgivenback.images import is_width
from allgivenback.names import AREA, SPAN, thing_of
from allgivenback.notation import are_requests
from allgivenback.spans import MOST_PLACE, is_span

MOST_TWIN = 16384
USERS = 8
FULL_RIGHTS = 2
# The number of fields of each refusal that an outcome may tell.
FIELDS = {"BadValue": 1, "Broken": 3, "Unknown": 1, "NotHeld": 2, "Fault": 2, "NoRoom": 1, "Cut": 2}


class Twin:
    """The spans that are kept, with their holders and words."""

    def __init__(self, *, fill=0):
        need(is_word(fill), "fill")
        self._fill = fill
        # A tuple (size, holder, words) by the start of each span.
        self._kept = {}

    def _need_new(self, span, old):
        """Raises Unknown if the span overlaps a kept one other than that with the old start."""
        for start, (size, _, _) in self._kept.items():
            if start != old and span[0] < start + size and start < span[0] + span[1]:
                raise Unknown("span")

    def _kept_at(self, start):
        """The tuple (size, holder, words) of the kept span; Unknown if there is none."""
        if start not in self._kept:
            raise Unknown("start")
        return self._kept[start]

    def _need_held(self, start, holder):
        """Raises NotHeld unless the holder holds the kept span."""
        found = self._kept[start][1]
        if found != holder:
            raise NotHeld(start, found)

    def take(self, span, holder):
        """Keeps a new span for the holder."""
        need(is_twin_span(span), "span")
        need(is_user(holder), "holder")
        self._need_new(span, None)
        self._kept[span[0]] = (span[1], holder, [self._fill] * span[1])

    def give_back(self, start, holder):
        """Keeps a span no longer and returns it."""
        need_start(start)
        need(is_user(holder), "holder")
        size = self._kept_at(start)[0]
        self._need_held(start, holder)
        del self._kept[start]
        return (start, size)

    def resize(self, start, holder, span):
        """Puts a new span in the place of a kept one, with as many of its words as both have."""
        need_start(start)
        need(is_user(holder), "holder")
        need(is_twin_span(span), "span")
        words = self._kept_at(start)[2]
        self._need_new(span, start)
        self._need_held(start, holder)
        del self._kept[start]
        first = words[:span[1]]
        self._kept[span[0]] = (span[1], holder, first + [self._fill] * (span[1] - len(first)))

    def pass_to(self, start, holder, taker):
        """Passes a span on to the taker and returns it."""
        need_start(start)
        need(is_user(holder), "holder")
        need(is_user(taker), "taker")
        size, _, words = self._kept_at(start)
        self._need_held(start, holder)
        self._kept[start] = (size, taker, words)
        return (start, size)

    def _need_offset(self, start, offset):
        """Raises Unknown unless the kept span has a place at the offset."""
        if offset >= self._kept_at(start)[0]:
            raise Unknown("offset")

    def put(self, start, offset, word, holder):
        """Changes a word of a span."""
        need_start(start)
        need_whole(offset, 0, MOST_PLACE, "offset")
        need(is_word(word), "word")
        need(is_user(holder), "holder")
        self._need_offset(start, offset)
        self._need_held(start, holder)
        self._kept[start][2][offset] = word

    def get(self, start, offset, holder):
        """A word of a span."""
        need_start(start)
        need_whole(offset, 0, MOST_PLACE, "offset")
        need(is_user(holder), "holder")
        self._need_offset(start, offset)
        self._need_held(start, holder)
        return self._kept[start][2][offset]

    def set_words(self, start, holder, words):
        """Changes the first words of a span, as many as there are."""
        need_start(start)
        need(is_user(holder), "holder")
        need(is_row(words) and all([is_word(word) for word in words]), "words")
        size, _, before = self._kept_at(start)
        if len(words) > size:
            raise Unknown("words")
        self._need_held(start, holder)
        self._kept[start] = (size, holder, list(words) + before[len(words):])

    def words_of(self, start):
        """A list of all words of a span."""
        need_start(start)
        return list(self._kept_at(start)[2])

    def handed(self):
        """A list of tuples (start, size, holder) of the kept spans, ascending."""
        return sorted([(start, size, holder) for start, (size, holder, _) in self._kept.items()])


def is_twin_span(value):
    """True if the value is a span that a twin can keep."""
    return is_span(value) and value[1] <= MOST_TWIN


def need_start(start):
    """Raises BadValue unless the argument can be the start of a span."""
    need_whole(start, 0, MOST_PLACE, "start")


class Run:
    """What has been handed out so far in a row of requests and outcomes."""

    def __init__(self, width, fill):
        self._width = width
        # What each name stands for: a tuple (kind, start, size) by (user, name); and the rights of the areas.
        self._names = {}
        self._rights = {}
        self._spans = Twin(fill=fill)
        self._areas = {user: Twin(fill=fill) for user in range(1, USERS + 1)}

    def play(self, request, value):
        """Does a request with its value; raises a StoreError if the value cannot be right."""
        thing = thing_of(self._names, request)
        word = request[0]
        if word == "tick":
            need(isinstance(value, tuple) and all([is_count(page) for page in value]), "value")
        elif word == "settle":
            need(is_count(value), "value")
        elif word == "take":
            self._take(request, value)
        elif word == "map":
            self._map(request, value)
        elif thing[0] == SPAN:
            self._use_span(request, value, thing[1], thing[2])
        else:
            self._use_area(request, value, thing[1], thing[2])

    def _take(self, request, value):
        """Plays a request for a new span."""
        _, user, name, size, align = request
        need(is_twin_span(value) and value[1] >= size and value[0] % align == 0, "value")
        self._spans.take(value, user)
        self._names[(user, name)] = (SPAN,) + value

    def _map(self, request, value):
        """Plays a request for a new area."""
        _, user, name, count = request
        self._take_area(user, name, value, count * self._width, FULL_RIGHTS)

    def _take_area(self, user, name, value, size, rights):
        """Keeps a new area of the user."""
        need(is_twin_span(value) and value[1] == size and value[0] % self._width == 0, "value")
        self._areas[user].take(value, user)
        self._names[(user, name)] = (AREA,) + value
        self._rights[(user, name)] = rights

    def _use_span(self, request, value, start, size):
        """Plays a request for a span of the user."""
        word, user, name = request[:3]
        if word == "resize":
            need(is_twin_span(value) and value[1] >= request[3], "value")
            self._spans.resize(start, user, value)
            self._names[(user, name)] = (SPAN,) + value
        elif word == "free" or word == "pass":
            need(is_exactly(value, (start, size)), "value")
            del self._names[(user, name)]
            if word == "free":
                self._spans.give_back(start, user)
            else:
                self._spans.pass_to(start, user, request[3])
                self._names[(request[3], name)] = (SPAN, start, size)
        elif word == "put":
            need(value is None, "value")
            self._spans.put(start, request[3], request[4], user)
        else:
            need(is_exactly(value, self._spans.get(start, request[3], user)), "value")

    def _use_area(self, request, value, start, size):
        """Plays a request for an area of the user."""
        word, user, name = request[:3]
        area = self._areas[user]
        rights = self._rights[(user, name)]
        if word == "unmap":
            need(is_exactly(value, (start, size)), "value")
            area.give_back(start, user)
            del self._names[(user, name)]
        elif word == "share":
            self._take_area(request[3], name, value, size, rights)
            self._areas[request[3]].set_words(value[0], request[3], area.words_of(start))
        elif word == "protect":
            need(value is None, "value")
            self._rights[(user, name)] = request[3]
        elif word == "store":
            need(value is None and rights == FULL_RIGHTS, "value")
            area.put(start, request[3], request[4], user)
        elif word == "load":
            need(rights >= 1 and is_exactly(value, area.get(start, request[3], user)), "value")
        else:
            need(is_count(value), "value")


def is_count(value):
    """True if the value is an integer from 0 on."""
    return is_whole(value) and value >= 0


def is_refusal(outcome):
    """True if the outcome tells a refusal with as many fields as its class has."""
    if not isinstance(outcome, tuple) or len(outcome) != 3 or not is_exactly(outcome[0], "refused"):
        return False
    _, title, fields = outcome
    if not isinstance(title, str) or not isinstance(fields, tuple):
        return False
    return title in FIELDS and len(fields) == FIELDS[title]


def can_follow(run, request, outcome):
    """True if the outcome of the request can be right, which is then done in the run."""
    if is_refusal(outcome):
        return True
    if not isinstance(outcome, tuple) or len(outcome) != 2 or not is_exactly(outcome[0], "done"):
        return False
    try:
        run.play(request, outcome[1])
    except StoreError:
        return False
    return True


def is_run(requests, outcomes, *, width, fill=0):
    """True if a session could have told these outcomes of the requests."""
    need(are_requests(requests), "requests")
    need(is_width(width), "width")
    need(is_word(fill), "fill")
    if not isinstance(outcomes, list) or len(outcomes) != len(requests):
        return False
    run = Run(width, fill)
    for request, outcome in zip(requests, outcomes):
        if not can_follow(run, request, outcome):
            return False
    return True
