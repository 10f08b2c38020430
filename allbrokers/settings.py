"""The settings of routes and links: which values they can have, and which promises there are."""

from allbrokers.errors import BadSettings, NoPromise

# In the order in which they are checked.
ROUTE_VALUES = {
    "repeats": (True, False),
    "room": (1, 2),
    "copies": (1, 2, 3),
    "need": (0, 1, 2, 3),
    "choice": ("any", "longest"),
    "window": (0, 1, 2, None),
    "reads": ("any", "safe"),
    "place": ("before", "after", "with"),
    "outlet": (0, 1, 2, None),
}
LINK_VALUES = {
    "ahead": (1, 2),
    "repeats": (True, False),
    "room": (1, 2),
    "check": ("none", "next", "window"),
    "window": (1, 2),
    "keeps": (True, False),
}
ROUTE_PROMISES = ("doubled", "lost", "untold")
LINK_PROMISES = ("doubled", "disorder", "lost")


def values_of(is_link):
    """The dict from the settings of links, or of routes, to the values that each can have."""
    return dict(LINK_VALUES) if is_link else dict(ROUTE_VALUES)


def is_among(values, value):
    """Whether a value is one of some values; True is not 1 here."""
    return any([type(value) is type(one) and value == one for one in values])


def bad_setting(is_link, told):
    """The name of the first setting in a dict of all of them that is not as it must be, None if there is none."""
    for name, values in values_of(is_link).items():
        if not is_among(values, told[name]):
            return name
        if name == "need" and told["need"] > told["copies"]:
            return name
    return None


def check_settings(is_link, told):
    """Refuse a dict of all settings, if one is not as it must be."""
    name = bad_setting(is_link, told)
    if name is not None:
        raise BadSettings(name)


def check_promise(is_link, promise):
    """Refuse what is no name of a promise of links, or of routes."""
    names = LINK_PROMISES if is_link else ROUTE_PROMISES
    if not is_among(names, promise):
        raise NoPromise("not the name of a promise")
