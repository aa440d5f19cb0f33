"""Beds: the spans in which heaps and the like work."""

from allgivenback.checks import need, need_whole
from allgivenback.deeds import need_held, need_words
from allgivenback.ground import Ground
from allgivenback.images import is_image

MOST_BED_ALIGN = 4096


def need_bed(ground, start, size, least):
    """Raises BadValue for the first argument that tells no bed of at least so many places in a ground."""
    need(isinstance(ground, Ground), "ground")
    need_whole(start, 0, ground.top - 1, "start")
    need_whole(size, least, ground.top - start, "size")


def need_bed_in(image, start, size, least):
    """Raises BadValue for the first argument that tells no bed of at least so many places in an image."""
    need(is_image(image), "image")
    need_whole(start, 0, len(image[2]) - 1, "start")
    need_whole(size, least, len(image[2]) - start, "size")


def need_new_bed(ground, start, size, keeper):
    """Raises Broken or NotHeld unless the keeper holds all places of the bed and their words are fill."""
    need_words(ground, start, (ground.fill,) * size, keeper)
    need_held(ground, start, size, keeper)
