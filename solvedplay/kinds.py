"""What several files ask of the things that they are handed."""


def tupled(thing):
    """The same with tuples for lists, so that nothing told or kept is the asker's own list."""
    if isinstance(thing, (list, tuple)):
        return tuple([tupled(part) for part in thing])
    return thing


def copied(thing):
    """The same, of the same kinds, with lists of its own."""
    if isinstance(thing, list):
        return [copied(part) for part in thing]
    if isinstance(thing, tuple):
        return tuple([copied(part) for part in thing])
    return thing


def is_number(thing):
    # Python counts True and False among the whole numbers, the document doesn't.
    return isinstance(thing, int) and not isinstance(thing, bool)


def is_number_from(thing, least, most):
    return is_number(thing) and least <= thing <= most


def is_count(thing):
    return is_number(thing) and thing >= 0


def is_tuple_of(thing, many):
    return isinstance(thing, tuple) and len(thing) == many


def is_text_of(thing, signs, least, most):
    return isinstance(thing, str) and least <= len(thing) <= most and all([sign in signs for sign in thing])


def is_list_of(thing, is_one):
    """Whether thing is a list of what is_one tells True of."""
    return isinstance(thing, list) and all([is_one(one) for one in thing])
