"""New tuples for what is told: it belongs to the asker, even where it is what was handed in."""


def told_anew(thing):
    """The same tuple, and each one in it, made anew; of what is no tuple, itself."""
    return tuple([told_anew(part) for part in thing]) if isinstance(thing, tuple) else thing
