"""How a slab is cut in slots, and the size classes of the slots that drawers give out."""

from allgivenback.basics import is_whole
from allgivenback.checks import need, need_whole
from allgivenback.images import MOST_PAGES, is_width
from allgivenback.spans import MOST_ALIGN, MOST_ORDER, MOST_PLACE, need_align, power_in

MOST_SLOT = 4096
SIZES = (1, 2, 3, 4, 6, 8, 12, 16, 24, 32)
MOST_CLASS_ALIGN = 4
LEAST_SLOTS = 2


def need_shape(width, order, size, align):
    """Raises BadValue for the first of the four that is not as told."""
    need(is_width(width), "width")
    need_whole(order, 0, MOST_ORDER, "order")
    need_whole(size, 1, MOST_SLOT, "size")
    need_align(align, width, "align")


def slab_shape(width, order, size, align):
    """The stride, the number of slots and the number of colours of a slab, or None if it has no slot."""
    need_shape(width, order, size, align)
    room = (width << order) - align
    # The least multiple of the alignment that is greater than the size leaves a red place behind each slot.
    stride = size + align - size % align
    slots = room // stride
    if slots == 0:
        return None
    return (stride, slots, (room - slots * stride) // align + 1)


def slot_starts(width, order, size, align, page):
    """The starts of the slots of the slab whose first page is given, ascending."""
    need_shape(width, order, size, align)
    need_whole(page, 0, MOST_PAGES - 1, "page")
    need(page % (1 << order) == 0, "page")
    shape = slab_shape(width, order, size, align)
    if shape is None:
        return []
    stride, slots, colours = shape
    colour = (page >> order) % colours
    first = page * width + align + colour * align
    return list(range(first, first + slots * stride, stride))


def class_sizes(width):
    """The sizes of the size classes, ascending."""
    need(is_width(width), "width")
    return [size for size in SIZES if size <= width // 2]


def class_align(size):
    """The alignment of the slots of a size class."""
    need(is_whole(size) and size in SIZES, "size")
    return min(power_in(size), MOST_CLASS_ALIGN)


def class_order(width, size):
    """The order of the slabs of a size class: the least one with at least two slots."""
    need(is_width(width), "width")
    align = class_align(size)
    order = 0
    while not has_slots(slab_shape(width, order, size, align)):
        order = order + 1
    return order


def has_slots(shape):
    """True if the shape has as many slots as a slab of a size class needs."""
    return shape is not None and shape[1] >= LEAST_SLOTS


def class_of(width, size, align):
    """The number of the lowest class whose slots are large enough and aligned enough, or None."""
    need(is_width(width), "width")
    need_whole(size, 1, MOST_PLACE, "size")
    need_align(align, MOST_ALIGN, "align")
    for number, each in enumerate(class_sizes(width)):
        if each >= size and class_align(each) >= align:
            return number
    return None
