"""The ground: a row of words, each with its holder, that changes in deeds."""

from allgivenback.basics import Broken, Cut, NOBODY, NotHeld, Unknown, is_holder, is_whole
from allgivenback.checks import is_word, need, need_whole
from allgivenback.images import MOST_PAGES, is_image, is_width
from allgivenback.places import Places

MOST_BUDGET = 1000000000


def is_budget(value):
    """True if the value is None or a number of places that may be charged."""
    return value is None or (is_whole(value) and 0 <= value <= MOST_BUDGET)


class Ground:
    """Words and holders of all places, and the deeds that are started."""

    def __init__(self, pages, width, *, fill=0, budget=None):
        need_whole(pages, 1, MOST_PAGES, "pages")
        need(is_width(width), "width")
        need(is_word(fill), "fill")
        need(is_budget(budget), "budget")
        self.pages = pages
        self.width = width
        self.fill = fill
        self._budget = budget
        self._spent = 0
        self._words = [fill] * (pages * width)
        self._holders = [NOBODY] * (pages * width)
        # One dict for each started deed: the word and holder at its begin of each place that it changed.
        self._deeds = []

    @property
    def top(self):
        """The number of places."""
        return self.pages * self.width

    @property
    def spent(self):
        """The sum of the costs that were charged."""
        return self._spent

    @property
    def depth(self):
        """The number of deeds that are started and not ended."""
        return len(self._deeds)

    @property
    def budget(self):
        """What may still be charged, or None."""
        return self._budget

    @budget.setter
    def budget(self, value):
        need(is_budget(value), "budget")
        self._budget = value

    def _need_place(self, place):
        """Raises BadValue unless the argument is a place of the ground."""
        need_whole(place, 0, self.top - 1, "place")

    def word_at(self, place):
        """The word of any place."""
        self._need_place(place)
        return self._words[place]

    def holder_at(self, place):
        """The holder of any place."""
        self._need_place(place)
        return self._holders[place]

    def read(self, place, holder):
        """The word of a place of the holder."""
        self._need_place(place)
        need(is_holder(holder) and holder != NOBODY, "holder")
        self._need_held(place, place + 1, holder)
        return self._words[place]

    def write(self, place, word, holder):
        """Changes the word of a place of the holder."""
        self._need_place(place)
        need(is_word(word), "word")
        need(is_holder(holder) and holder != NOBODY, "holder")
        self._need_held(place, place + 1, holder)
        self.begin()
        self._change(place, word, holder)
        self.commit()

    def write_row(self, start, words, holder):
        """Changes the words from a place of the holder on, as many as there are; nothing is checked but the holder."""
        end = start + len(words)
        self._need_held(start, end, holder)
        self.begin()
        for place, word in enumerate(words, start=start):
            self._change(place, word, holder)
        self.commit()

    def put_cells(self, cells):
        """Changes places as the rows (place, word, holder) tell, past all guards; nothing is checked."""
        self.begin()
        for place, word, holder in cells:
            self._change(place, word, holder)
        self.commit()

    def poke(self, place, word):
        """Changes the word of any place, past all guards."""
        self._need_place(place)
        need(is_word(word), "word")
        self.begin()
        self._change(place, word, self._holders[place])
        self.commit()

    def pass_on(self, start, size, giver, taker):
        """Changes the holder of all places of a span."""
        need_whole(start, 0, self.top - 1, "start")
        need_whole(size, 1, self.top - start, "size")
        need(is_holder(giver), "giver")
        need(is_holder(taker), "taker")
        end = start + size
        if giver == NOBODY:
            self._need_fill(start, end)
        self._need_held(start, end, giver)
        self.begin()
        for place in range(start, end):
            word = self.fill if taker == NOBODY else self._words[place]
            self._change(place, word, taker)
        self.commit()

    def _need_fill(self, start, end):
        """Raises Broken for the lowest place of nobody that has another word than fill."""
        for place in range(start, end):
            if self._holders[place] == NOBODY and self._words[place] != self.fill:
                raise Broken(place, self._words[place], self.fill)

    def _need_held(self, start, end, holder):
        """Raises NotHeld for the lowest place that the holder does not hold."""
        for place in range(start, end):
            if self._holders[place] != holder:
                raise NotHeld(place, self._holders[place])

    def held_by(self, holder):
        """The set of all places of the holder."""
        need(is_holder(holder), "holder")
        return Places([(place, 1) for place in range(self.top) if self._holders[place] == holder])

    def image(self):
        """The width, the fill and all words and holders."""
        return (self.width, self.fill, tuple(self._words), tuple(self._holders))

    def begin(self):
        """Starts a deed and tells the new depth."""
        self._deeds.append({})
        return len(self._deeds)

    def commit(self):
        """Ends the innermost deed, keeps its changes and tells its cost."""
        if not self._deeds:
            raise Unknown("deed")
        cost = self._cost()
        if len(self._deeds) > 1:
            inner = self._deeds.pop()
            self._pass_out(inner)
            return cost
        self._charge(cost)
        self._deeds.pop()
        return cost

    def cancel(self):
        """Ends the innermost deed and puts everything back as it was at its begin."""
        if not self._deeds:
            raise Unknown("deed")
        deed = self._deeds.pop()
        for place, (word, holder) in deed.items():
            self._words[place] = word
            self._holders[place] = holder

    def deed_rows(self):
        """The change rows of the innermost deed so far."""
        deed = self._deeds[-1]
        rows = [(place,) + deed[place] + (self._words[place], self._holders[place]) for place in sorted(list(deed))]
        return [row for row in rows if row[1:3] != row[3:]]

    def _change(self, place, word, holder):
        """Changes a place within the innermost deed, which remembers how the place was."""
        deed = self._deeds[-1]
        if place not in deed:
            deed[place] = (self._words[place], self._holders[place])
        self._words[place] = word
        self._holders[place] = holder

    def _cost(self):
        """The number of places that differ from the begin of the innermost deed."""
        deed = self._deeds[-1]
        cost = 0
        for place, (word, holder) in deed.items():
            if self._words[place] != word or self._holders[place] != holder:
                cost = cost + 1
        return cost

    def _pass_out(self, inner):
        """Lets the deed around remember what an inner deed has changed."""
        outer = self._deeds[-1]
        for place, before in inner.items():
            if place not in outer:
                outer[place] = before

    def _charge(self, cost):
        """Charges the outermost deed, or cuts it."""
        if self._budget is not None:
            left = self._budget
            if left < cost:
                self.cancel()
                raise Cut(cost, left)
            self._budget = left - cost
        self._spent = self._spent + cost


def ground_of(image):
    """A new ground with the words and holders of an image."""
    need(is_image(image), "image")
    width, fill, words, holders = image
    made = Ground(len(words) // width, width, fill=fill)
    made._words = list(words)
    made._holders = list(holders)
    return made
