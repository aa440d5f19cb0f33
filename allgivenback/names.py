"""What the names of requests stand for, and which requests a session refuses before it calls the store."""

from allgivenback.basics import BadValue, Unknown

SPAN = "span"
AREA = "area"
# What the name of a request must stand for, where it must be in use.
KINDS = {
    "resize": "span",
    "free": "span",
    "pass": "span",
    "put": "span",
    "get": "span",
    "unmap": "area",
    "share": "area",
    "protect": "area",
    "store": "area",
    "load": "area",
    "out": "area",
}


def thing_of(names, request):
    """The tuple (kind, start, size) for which the request's name stands, or None if it needs none.

    names is a dict of such tuples by (user, name). The refusals are those that come before any call of the store.
    """
    word = request[0]
    if word == "tick" or word == "settle":
        return None
    user, name = request[1:3]
    if word == "take" or word == "map":
        if (user, name) in names:
            raise BadValue("name")
        return None
    if word in ("pass", "share") and (request[3] == user or (request[3], name) in names):
        raise BadValue("taker")
    if (user, name) not in names or names[(user, name)][0] != KINDS[word]:
        raise Unknown("name")
    thing = names[(user, name)]
    if word in ("put", "get", "store", "load") and request[3] >= thing[2]:
        raise Unknown("offset")
    return thing
