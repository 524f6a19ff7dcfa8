"""What any values are: integers, names, labels, lists."""


def is_integer(value):
    """Whether value is an integer; True and False are none."""
    return isinstance(value, int) and not isinstance(value, bool)


def is_within(value, least, most):
    """Whether value is an integer from least to most, None being no bound."""
    if not is_integer(value):
        return False
    return (least is None or value >= least) and (most is None or value <= most)


def is_name(value):
    """Whether value is a name: 1 to 12 small letters and digits, a letter first."""
    if not isinstance(value, str) or not 1 <= len(value) <= 12:
        return False
    return value.isascii() and value.isalnum() and value == value.lower() and not value[0].isdigit()


def is_label(value):
    """Whether value is a label: the name of a picture, a dot, the name of a point."""
    if not isinstance(value, str):
        return False
    name, _, point = value.partition(".")
    return is_name(name) and is_name(point)


def is_list(value):
    """Whether value is a list or a tuple, which may be passed for one another."""
    return isinstance(value, (list, tuple))


def picture_of(label):
    """The name of the picture of a label."""
    return label.partition(".")[0]


def first_twice(values):
    """The first of some strings that stood ahead; None if there is none."""
    ahead = {}
    for value in values:
        if value in ahead:
            return value
        ahead[value] = True
    return None
