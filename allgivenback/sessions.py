"""Sessions: they run requests over a store, remember names, keep records and take them back."""

from allgivenback.basics import Cut, StoreError, Unknown, is_user
from allgivenback.checks import is_row, need
from allgivenback.deeds import as_deed, as_trial
from allgivenback.ground import is_budget
from allgivenback.images import image_after, is_changes, is_image
from allgivenback.names import AREA, SPAN, thing_of
from allgivenback.notation import MOST_REQUESTS, are_requests, is_request
from allgivenback.store import Store

DONE = "done"
REFUSED = "refused"


def refusal_of(told):
    """The outcome of a refusal that tells its title and its fields."""
    return (REFUSED,) + told


def fits_records(value):
    """True if the value is a row of tuples of three with change rows as the third, not too many."""
    if not is_row(value) or len(value) > MOST_REQUESTS:
        return False
    return all([isinstance(record, tuple) and len(record) == 3 and is_changes(record[2]) for record in value])


class Session:
    """A store with names for what its users hold, and the records of what was done."""

    def __init__(self, home):
        need(isinstance(home, Store), "home")
        self.home = home
        self._ground = home.buddies.ground
        # What each name stands for: a tuple (kind, start, size) by (user, name).
        self._names = {}
        # For each record a tuple of the record and of what the names that it changed stood for before.
        self._past = []

    def do(self, request, *, steps=None):
        """Does a request and returns its outcome."""
        need(is_request(request), "request")
        need(is_budget(steps), "steps")
        budget = self._ground.budget
        if steps is not None:
            self._ground.budget = steps
        outcome, _, rows, names = self._play(request)
        if steps is not None:
            self._ground.budget = budget
        if outcome[0] == DONE:
            before = [(key, self._names.get(key)) for key, _ in names]
            self._past.append(((request, outcome, rows), before))
            self._set_names(names)
        return outcome

    def _play(self, request):
        """Does a request as one deed: a tuple of its outcome, its cost, its change rows and the names to be set."""
        self._ground.begin()
        try:
            value, names = self._work(request)
        except StoreError as refusal:
            self._ground.cancel()
            return (refusal_of(refusal.told), 0, [], [])
        rows = self._ground.deed_rows()
        try:
            cost = self._ground.commit()
        except Cut as cut:
            return (refusal_of(cut.told), 0, [], [])
        return ((DONE, value), cost, rows, names)

    def _set_names(self, names):
        """Sets what names stand for; None is for a name that is not in use."""
        for key, thing in names:
            if thing is None:
                self._names.pop(key, None)
            else:
                self._names[key] = thing

    def _work(self, request):
        """Makes the calls of a request: a tuple of its value and the names to be set."""
        thing = thing_of(self._names, request)
        word = request[0]
        if word == "tick":
            return (tuple(self.home.tick()), [])
        if word == "settle":
            return (self.home.settle(), [])
        if thing is None:
            return self._work_new(request)
        if word in ("put", "get", "store", "load"):
            return (self._work_word(request, thing[1] + request[3]), [])
        if thing[0] == SPAN:
            return self._work_span(request, thing[1])
        return self._work_area(request, thing)

    def _work_new(self, request):
        """Makes the calls of a request for a new name."""
        word, user, name = request[:3]
        if word == "take":
            span = self.home.take(request[3], user, align=request[4])
            return (span, [((user, name), (SPAN,) + span)])
        area = self.home.spaces.reserve(user, request[3])
        self.home.spaces.commit_pages(user, area[0], request[3])
        return (area, [((user, name), (AREA,) + area)])

    def _work_word(self, request, place):
        """Makes the call of a request for one word, and returns the value."""
        word, user = request[:2]
        if word == "put":
            return self._ground.write(place, request[4], user)
        if word == "get":
            return self._ground.read(place, user)
        if word == "store":
            return self.home.spaces.store(user, place, request[4])
        return self.home.spaces.load(user, place)

    def _work_span(self, request, start):
        """Makes the call of a request for a whole span."""
        word, user, name = request[:3]
        if word == "resize":
            span = self.home.resize(start, user, request[3])
            return (span, [((user, name), (SPAN,) + span)])
        if word == "free":
            return (self.home.give_back(start, user), [((user, name), None)])
        span = self.home.pass_to(start, user, request[3])
        return (span, [((user, name), None), ((request[3], name), (SPAN,) + span)])

    def _work_area(self, request, thing):
        """Makes the call of a request for a whole area."""
        word, user, name = request[:3]
        start = thing[1]
        count = thing[2] // self._ground.width
        spaces = self.home.spaces
        if word == "unmap":
            spaces.release(user, start, count)
            return (thing[1:], [((user, name), None)])
        if word == "share":
            area = spaces.share(user, start, count, request[3])
            return (area, [((request[3], name), (AREA,) + area)])
        if word == "protect":
            return (spaces.protect(user, start, count, request[3]), [])
        return (spaces.put_out(user, start, count), [])

    def trial(self, request):
        """A tuple of the outcome and the cost that the request would have without a budget; nothing is changed."""
        need(is_request(request), "request")
        # Within another deed the request's own is neither charged nor cut.
        return as_trial(self._ground, lambda: self._play(request))[:2]

    def run(self, requests):
        """Does requests one after the other and returns a list of their outcomes."""
        need(are_requests(requests), "requests")
        return [self.do(request) for request in requests]

    def names_of(self, user):
        """A list of tuples (name, kind, start, size) of the user's names, ascending."""
        need(is_user(user), "user")
        return sorted([(key[1],) + thing for key, thing in self._names.items() if key[0] == user])

    def records(self):
        """A list of tuples (request, outcome, rows) of all that was done and not taken back."""
        return [(request, outcome, list(rows)) for (request, outcome, rows), _ in self._past]

    def undo(self):
        """Takes the last record back and returns its request."""
        if not self._past:
            raise Unknown("record")
        (request, _, rows), names = self._past[-1]
        for place, _, _, word, holder in rows:
            if self._ground.word_at(place) != word or self._ground.holder_at(place) != holder:
                raise Unknown("record")
        cells = [(at, old_word, old_holder) for at, old_word, old_holder, _, _ in rows]
        as_deed(self._ground, lambda: self._ground.put_cells(cells))
        self._past.pop()
        self._set_names(names)
        return request


def replayed(image, records):
    """The image with the rows of the records applied, one after the other."""
    need(is_image(image), "image")
    need(fits_records(records), "records")
    after = image_after(image, [record[2] for record in records])
    need(after is not None, "records")
    return after
