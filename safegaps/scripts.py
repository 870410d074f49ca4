"""Scripts, tuples of rows (name, atoms), how they are written, and how they are read back."""

from safegaps.signs import script_read, script_written
from safegaps.states import SCRIPT_TAG, check_led

SCRIPT_ENDS = ("row",)
SCRIPT_MODES = ("row", "name", "atom", "number", "quoted", "hat", "done")


def show_script(script):
    """The script as it is written."""
    return "".join([show_row(row) for row in script])


def show_row(row):
    """The row as it is written."""
    name, atoms = row
    return name + "=" + "+".join([show_atom(atom) for atom in atoms]) + ";"


def show_atom(atom):
    """The atom as it is written."""
    kind, words = atom
    if kind == "num":
        return words
    return "'" + script_written(words) + "'"


def read_script(text):
    """The script that is so written; refuses NoPage."""
    check_led(("row", (SCRIPT_TAG,), ""), text, SCRIPT_MODES, SCRIPT_ENDS)
    parts = text.split("'")
    # Quoted texts may hold the signs between rows and atoms, so one quote stands for each of them while these are cut.
    rows = "'".join(parts[0::2]).split(";")
    quoted = list(reversed(parts[1::2]))
    return tuple([read_row(row, quoted) for row in rows[:-1]])


def read_row(row, quoted):
    """The row that is so written, its quoted texts taken from the end of the list quoted."""
    name, equals, atoms = row.partition("=")
    return (name, tuple([read_atom(atom, quoted) for atom in atoms.split("+")]))


def read_atom(atom, quoted):
    """The atom that is so written, a quoted text taken from the end of the list quoted."""
    if atom == "'":
        return ("text", script_read(quoted.pop()))
    return ("num", atom)
