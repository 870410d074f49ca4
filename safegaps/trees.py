"""The leaves of a content, all texts in it, its bones, all that is left without them, and both put together again."""

from safegaps.errors import NoTree
from safegaps.states import ADDRESS_NAMES, SCRIPT_TAG


def leaves_of(content):
    """A tuple of all texts in the content, in the order in which they stand in the page."""
    texts, tags = content
    leaves = [texts[0]]
    for tag, text in zip(tags, texts[1:]):
        leaves.extend(tag_leaves(tag))
        leaves.append(text)
    return tuple(leaves)


def tag_leaves(tag):
    """A list of the leaves of a tag."""
    name, attrs, inside = tag
    leaves = []
    for attr, value in attrs:
        leaves.extend(address_leaves(value) if attr in ADDRESS_NAMES else [value])
    leaves.extend(script_leaves(inside) if name == SCRIPT_TAG else leaves_of(inside))
    return leaves


def address_leaves(address):
    """A list of the leaves of an address."""
    scheme, segments, pairs = address
    leaves = list(segments)
    for pair in pairs:
        leaves.extend([part for part in pair if part is not None])
    return leaves


def script_leaves(script):
    """A list of the leaves of a script."""
    leaves = []
    for name, atoms in script:
        leaves.extend([words for kind, words in atoms])
    return leaves


def bones_of(content):
    """A tuple of the bones of the tags in the content."""
    texts, tags = content
    return tuple([tag_bones(tag) for tag in tags])


def tag_bones(tag):
    """The bones (name, attrs, inside) of a tag."""
    name, attrs, inside = tag
    bones = [(attr, address_bones(value) if attr in ADDRESS_NAMES else None) for attr, value in attrs]
    return (name, tuple(bones), script_bones(inside) if name == SCRIPT_TAG else bones_of(inside))


def address_bones(address):
    """The bones (scheme, how many segments, for each pair whether it has a value) of an address."""
    scheme, segments, pairs = address
    return (scheme, len(segments), tuple([value is not None for key, value in pairs]))


def script_bones(script):
    """The bones of a script, a tuple of tuples (name, kinds of atoms)."""
    return tuple([(name, tuple([kind for kind, words in atoms])) for name, atoms in script])


def tree_of(bones, leaves):
    """The content with these bones and leaves; refuses NoTree where there are more or fewer leaves than it needs."""
    waiting = list(reversed(leaves))
    content = content_of(bones, waiting)
    if len(waiting) > 0:
        raise NoTree("there are more leaves than the bones need")
    return content


def take_leaf(waiting):
    """The next leaf, taken from the end of the list; refuses NoTree where there is none."""
    if len(waiting) == 0:
        raise NoTree("there are fewer leaves than the bones need")
    return waiting.pop()


def content_of(bones, waiting):
    """The content with these bones, its leaves taken from the end of the list."""
    texts = [take_leaf(waiting)]
    tags = []
    for bone in bones:
        tags.append(tag_of(bone, waiting))
        texts.append(take_leaf(waiting))
    return (tuple(texts), tuple(tags))


def tag_of(bone, waiting):
    """The tag with these bones, its leaves taken from the end of the list."""
    name, bones, rest = bone
    attrs = [(attr, take_leaf(waiting) if told is None else address_of(told, waiting)) for attr, told in bones]
    return (name, tuple(attrs), script_of(rest, waiting) if name == SCRIPT_TAG else content_of(rest, waiting))


def address_of(bone, waiting):
    """The address with these bones, its leaves taken from the end of the list."""
    scheme, count, truths = bone
    segments = [take_leaf(waiting) for number in range(count)]
    # The things of a tuple are made from the left, so the key takes its leaf ahead of the value.
    pairs = [(take_leaf(waiting), take_leaf(waiting) if truth else None) for truth in truths]
    return (scheme, tuple(segments), tuple(pairs))


def script_of(bones, waiting):
    """The script with these bones, its leaves taken from the end of the list."""
    return tuple([row_of(name, kinds, waiting) for name, kinds in bones])


def row_of(name, kinds, waiting):
    """The row with this name and these kinds of atoms, its leaves taken from the end of the list."""
    return (name, tuple([(kind, take_leaf(waiting)) for kind in kinds]))
