"""Pages, told as contents (texts, the tags between them), how they are written, and how they are read back.

A tag in a content is a tuple (name, attrs, inside).
"""

from safegaps.addresses import read_address, show_address
from safegaps.errors import NoPage
from safegaps.scripts import read_script, show_script
from safegaps.signs import page_read, page_written
from safegaps.states import ADDRESS_NAMES, SCRIPT_TAG, START, go_over


def show_page(content):
    """The content as it is written."""
    written = []
    # Written texts and contents yet to be written, the next one last: so tags may stand however deep.
    waiting = [content]
    while len(waiting) > 0:
        part = waiting.pop()
        if isinstance(part, str):
            written.append(part)
        else:
            waiting.extend(list(reversed(parts_of(part))))
    return "".join(written)


def parts_of(content):
    """The content, in order, as written texts and, for the insides of its tags, contents."""
    texts, tags = content
    parts = [page_written(texts[0])]
    for tag, text in zip(tags, texts[1:]):
        name, attrs, inside = tag
        parts.append("<" + name + "".join([show_attr(attr) for attr in attrs]) + ">")
        parts.append(show_script(inside) if name == SCRIPT_TAG else inside)
        parts.append("</" + name + ">" + page_written(text))
    return parts


def show_attr(attr):
    """The attr as it is written, with the blank ahead of it."""
    name, value = attr
    words = show_address(value) if name in ADDRESS_NAMES else page_written(value)
    return " " + name + "=\"" + words + "\""


class Begun:
    """A tag that is read and not ended yet."""

    def __init__(self, name, attrs):
        self.name = name
        self.attrs = attrs
        self.texts = []
        self.tags = []
        self.script = ()

    def read_on(self, text):
        """Takes in what stands up to the next tag or end."""
        if self.name == SCRIPT_TAG:
            self.script = read_script(text)
        else:
            self.texts.append(page_read(text))

    def content(self):
        """What stands in it."""
        return (tuple(self.texts), tuple(self.tags))

    def ended(self):
        """The tag, now that its end is come to."""
        return (self.name, self.attrs, self.script if self.name == SCRIPT_TAG else self.content())


def read_page(text):
    """The content that is so written; refuses NoPage."""
    state, count = go_over(START, text)
    if count < len(text) or state != START:
        raise NoPage(count)
    # Neither texts nor values nor scripts hold a `<` as it is, so behind each one stands a tag or an end.
    parts = text.split("<")
    around = []
    here = Begun("", ())
    here.read_on(parts[0])
    for part in parts[1:]:
        # A script may hold a `>`, but what stands ahead of it may not, so the first one ends the tag.
        head, mark, tail = part.partition(">")
        if head.startswith("/"):
            tag = here.ended()
            here = around.pop()
            here.tags.append(tag)
        else:
            around.append(here)
            here = read_begin(head)
        here.read_on(tail)
    return here.content()


def read_begin(head):
    """The tag that begins so, told what stands between its `<` and its `>`."""
    # No value holds a quote as it is, so names and values stand in turn between the quotes.
    parts = head.split("\"")
    attrs = [read_attr(ahead, value) for ahead, value in zip(parts[0::2], parts[1::2])]
    return Begun(head.partition(" ")[0], tuple(attrs))


def read_attr(ahead, value):
    """The attr with this value, told what stands ahead of its quote: perhaps the tag's name, a blank, its name, `=`."""
    name = ahead.partition(" ")[2].partition("=")[0]
    return (name, read_address(value) if name in ADDRESS_NAMES else page_read(value))
