"""How the keepers put smaller deeds together, and what they look at before they change anything."""

from allgivenback.basics import Broken, StoreError


def begun(ground, work):
    """Begins a deed, does the work and returns what it returns; a refusal cancels the deed."""
    ground.begin()
    try:
        return work()
    except StoreError:
        ground.cancel()
        raise


def as_deed(ground, work):
    """Does the work as one deed of the ground and returns what it returns; a refusal cancels the deed."""
    result = begun(ground, work)
    # A commit that is cut has cancelled the deed itself.
    ground.commit()
    return result


def as_trial(ground, work):
    """Does the work, takes all that it changed back and returns what it returned."""
    result = begun(ground, work)
    ground.cancel()
    return result


def need_held(ground, start, size, holder):
    """Raises NotHeld for the lowest place of the span that the holder does not hold."""
    # Passing places on to their own holder changes nothing, but looks at all of them.
    ground.pass_on(start, size, holder, holder)


def need_words(ground, start, due, holder):
    """Raises Broken for the lowest of the holder's places, from start on, that has another word than is due."""
    for place, word in enumerate(due, start=start):
        found = ground.word_at(place)
        if found != word and ground.holder_at(place) == holder:
            raise Broken(place, found, word)
