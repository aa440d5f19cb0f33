"""Drawers: each user's store of slots of each size class, between the user and the caches."""

from allgivenback.basics import NoRoom, Unknown, drawer_of, is_user, is_whole
from allgivenback.buddies import Buddies
from allgivenback.checks import is_flag, is_paper, need, need_whole
from allgivenback.deeds import as_deed
from allgivenback.layout import has_map
from allgivenback.slabs import MOST_SPARE, Cache, is_drawer, is_no_slot, slots_in
from allgivenback.slots import class_align, class_of, class_order, class_sizes
from allgivenback.spans import MOST_ALIGN, MOST_PLACE, need_align

FIRST_LABEL = 100
MOST_LOT = 8
MOST_USER = 8


class Drawers:
    """The drawers of all users in all size classes."""

    def __init__(self, buddies, *, lot=2, spare=1, zone=1):
        need(isinstance(buddies, Buddies), "buddies")
        need_whole(lot, 1, MOST_LOT, "lot")
        need_whole(spare, 0, MOST_SPARE, "spare")
        need_whole(zone, 1, len(buddies.zone_rows()), "zone")
        width = buddies.ground.width
        self._buddies = buddies
        self._ground = buddies.ground
        self._lot = lot
        self._caches = [
            Cache(
                buddies, FIRST_LABEL + number, size, align=class_align(size), order=class_order(width, size),
                spare=spare, zone=zone)
            for number, size in enumerate(class_sizes(width))]

    def take(self, size, holder, *, align=1, urgent=False):
        """Gives the holder a slot of the class of the size and the alignment, and returns its span."""
        need_whole(size, 1, MOST_PLACE, "size")
        need(is_user(holder), "holder")
        need_align(align, MOST_ALIGN, "align")
        need(is_flag(urgent), "urgent")
        number = class_of(self._ground.width, size, align)
        if number is None:
            raise Unknown("size")
        return as_deed(self._ground, lambda: self._take(number, holder, urgent))

    def _take(self, number, holder, urgent):
        """Serves from the holder's drawer, which is filled before if it is empty."""
        cache = self._caches[number]
        drawer = drawer_of(holder)
        if not cache.starts_of(drawer):
            inner = self._fill(cache, drawer, urgent)
            if not cache.starts_of(drawer) and not self._steal(cache, drawer):
                raise NoRoom(("drawers", number, inner))
        return cache.hand_over(cache.starts_of(drawer)[0], drawer, holder)

    def _fill(self, cache, drawer, urgent):
        """Moves slots from the cache into a drawer; returns the paper of the refusal that ended it, or None."""
        for _ in range(self._lot):
            try:
                cache.take(drawer, urgent=urgent)
            except NoRoom as refusal:
                return refusal.paper
        return None

    def _steal(self, cache, drawer):
        """Moves a slot of the fullest drawer into an empty one; False if all are empty."""
        best = []
        for user in range(1, MOST_USER + 1):
            starts = cache.starts_of(drawer_of(user))
            if len(starts) > len(best):
                best = starts
        if not best:
            return False
        cache.hand_over(best[0], self._ground.holder_at(best[0]), drawer)
        return True

    def give_back(self, start, holder):
        """Puts a slot into the holder's drawer, which keeps only so many, and returns its span."""
        need_whole(start, 0, self._ground.top - 1, "start")
        need(is_user(holder), "holder")
        cache = self._cache_at(start)
        return as_deed(self._ground, lambda: self._give_back(cache, start, holder))

    def _cache_at(self, start):
        """The cache with the label of the given block around the place."""
        block = self._buddies.block_at(start)
        if block is None or not FIRST_LABEL <= block[2] < FIRST_LABEL + len(self._caches):
            raise Unknown("start")
        return self._caches[block[2] - FIRST_LABEL]

    def _give_back(self, cache, start, holder):
        """Does what give_back tells, once the cache is found."""
        drawer = drawer_of(holder)
        span = cache.hand_over(start, holder, drawer)
        starts = cache.starts_of(drawer)
        if len(starts) > 2 * self._lot:
            self._return(cache, starts[:-self._lot - 1:-1], drawer)
        return span

    def _return(self, cache, starts, drawer):
        """Gives slots of a drawer back to the cache, in this order, and returns their number."""
        for start in starts:
            cache.give_back(start, drawer)
        return len(starts)

    def pass_to(self, start, holder, taker):
        """Passes a slot on to a user with its words and returns its span."""
        return self._cache_at(start).hand_over(start, holder, taker)

    def flush(self, holder):
        """Gives all slots in the user's drawers back to the caches and returns their number."""
        need(is_user(holder), "holder")
        return as_deed(self._ground, lambda: self._flush(holder))

    def _flush(self, holder):
        """Does what flush tells, once the argument is looked at."""
        drawer = drawer_of(holder)
        return sum([self._return(cache, cache.starts_of(drawer), drawer) for cache in self._caches])

    def settle(self):
        """Flushes all users, shrinks all caches and returns the number of slots flushed."""
        return as_deed(self._ground, lambda: self._settle())

    def _settle(self):
        """Does what settle tells."""
        count = sum([self.flush(user) for user in range(1, MOST_USER + 1)])
        for cache in self._caches:
            cache.shrink()
        return count

    def starts_in(self, holder, index):
        """The starts of the slots in the user's drawer in the class with that number, ascending."""
        need(is_user(holder), "holder")
        need_whole(index, 0, len(self._caches) - 1, "index")
        return self._caches[index].starts_of(drawer_of(holder))

    def handed(self):
        """A list of tuples (start, size, holder) of the slots that users hold, ascending."""
        return sorted([row for cache in self._caches for row in cache.handed()])

    def first_broken(self):
        """That of the lowest class of which a cache tells a broken word, or None."""
        for cache in self._caches:
            found = cache.first_broken()
            if found is not None:
                return found
        return None


def is_no_drawer(image, paper, *, zone=1, urgent=False):
    """True if the paper shows that a class has no slot in any drawer or cache and no block for more."""
    need(has_map(image), "image")
    need_whole(zone, 1, image[2][1], "zone")
    need(is_flag(urgent), "urgent")
    sizes = class_sizes(image[0])
    if not is_paper(paper, "drawers", 3):
        return False
    _, number, inner = paper
    if not is_whole(number) or not 0 <= number < len(sizes):
        return False
    label = FIRST_LABEL + number
    size = sizes[number]
    align = class_align(size)
    order = class_order(image[0], size)
    if any([is_drawer(holder) for _, holder in slots_in(image, label, order, size, align)]):
        return False
    if not is_no_slot(image, inner, size, align=align, order=order, zone=zone, urgent=urgent):
        return False
    return inner[1] == label
