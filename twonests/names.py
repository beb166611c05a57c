"""Names, and the place that a multiplier gives to a name in a row."""

# A sign's number is its place in here, counted from 1.
SIGNS = "abcdefghijklmnopqrstuvwxyz0123456789"
LONGEST = 12


def is_name(name):
    """Tell whether a text is a name."""
    if name == "" or len(name) > LONGEST:
        return False
    for sign in name:
        if sign not in SIGNS:
            return False
    return True


def home(name, times, count):
    """Tell the home of a name by a multiplier and a count."""
    # By 0 there is no remainder, but a count beyond its limits is no error here.
    if count == 0:
        return 0
    number = 0
    for sign in name:
        number = (number * times + SIGNS.index(sign) + 1) % count
    return number
