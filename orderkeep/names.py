"""Names and whole numbers: of whatever thing, whether it is one."""

MOST_SIGNS = 8


def is_name(thing):
    if not isinstance(thing, str):
        return False
    if len(thing) < 1 or len(thing) > MOST_SIGNS:
        return False
    return all(["a" <= sign <= "z" for sign in thing])


def is_whole(thing):
    # To Python a truth is an int too; here it is no whole number.
    return isinstance(thing, int) and not isinstance(thing, bool)
