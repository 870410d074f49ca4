"""Addresses (scheme, segments, pairs), how they are written, and how they are read back."""

from safegaps.signs import address_read, address_written
from safegaps.states import check_led

# The tag's name is of no account within an address, but the rows need one in the memo.
ADDRESS_START = ("begin", (), "a")
ADDRESS_ENDS = ("begin", "letters", "path", "key", "val")
ADDRESS_MODES = ("begin", "letters", "path", "key", "val", "wave", "half")


def show_address(address):
    """The address as it is written."""
    scheme, segments, pairs = address
    ahead = "" if scheme is None else scheme + ":"
    path = "/".join([address_written(segment) for segment in segments])
    behind = "?" + ";".join([show_pair(pair) for pair in pairs]) if len(pairs) > 0 else ""
    return ahead + path + behind


def show_pair(pair):
    """The pair as it is written, without `=` where it has no value."""
    key, value = pair
    if value is None:
        return address_written(key)
    return address_written(key) + "=" + address_written(value)


def read_address(text):
    """The address that is so written; refuses NoPage."""
    check_led(ADDRESS_START, text, ADDRESS_MODES, ADDRESS_ENDS)
    # The signs between the parts are never written as they are within one, so the text can be cut at them.
    path, mark, behind = text.partition("?")
    head, colon, tail = path.partition(":")
    scheme = None if colon == "" else head
    segments = [address_read(segment) for segment in (path if colon == "" else tail).split("/")]
    pairs = [] if mark == "" else [read_pair(pair) for pair in behind.split(";")]
    return (scheme, tuple(segments), tuple(pairs))


def read_pair(text):
    """The pair that is so written."""
    key, equals, value = text.partition("=")
    return (address_read(key), None if equals == "" else address_read(value))
