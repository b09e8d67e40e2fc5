"""Areas: single rows of signs in which the boxes of a layout lie, and the deeds that change them."""

from boxmoves.errors import BadSize, NoAmount, NoBack, NoGroup
from boxmoves.layouts import boxes_alike, outline, where
from boxmoves.moving import amount_from, as_text, blank, move, put, stored
from boxmoves.pictures import kind_of

WITH_AMOUNTS = ("number", "edited")


class Area:
    """The signs of a layout, with the deeds that can be taken back and done again.

    Of a deed its word is kept, with all signs ahead of it, or, once it is taken back, behind it.
    """

    def __init__(self, layout):
        self.layout = layout
        self.held = signs_at_beginning(layout)
        self.done = []
        self.undone = []

    def __eq__(self, thing):
        if not isinstance(thing, Area) or self.held != thing.held:
            return False
        return self.done == thing.done and self.undone == thing.undone and outline(self.layout) == outline(thing.layout)

    def __len__(self):
        return len(self.held)

    def __str__(self):
        return f"[{self.held}]"

    def get(self, path):
        """The signs of a box or a group."""
        start, size, picture = where(self.layout, path)
        return self.held[start:start + size]

    def amount(self, path):
        """The amount in a box of figures; NoAmount, if it is none, and NoFigures, if its signs tell none."""
        start, size, picture = where(self.layout, path)
        check_kind(picture, WITH_AMOUNTS)
        return amount_from(self.held[start:start + size], picture)

    def load(self, path, text):
        """Gives a box or a group its signs; BadSize, if they are not as many."""
        start, size, picture = where(self.layout, path)
        if len(text) != size:
            raise BadSize("more signs, or fewer, than there is room for")
        self.change("load", with_signs(self.held, start, text))

    def give(self, path, amount):
        """Puts an amount, cut, into a box of figures; NoAmount, if it is none."""
        start, size, picture = where(self.layout, path)
        check_kind(picture, WITH_AMOUNTS)
        self.change("give", with_signs(self.held, start, put(picture, amount)))

    def store(self, path, amount, *, nearest=False):
        """Stores an amount in a number's box and tells whether it had room; NoAmount, if it is no number."""
        start, size, picture = where(self.layout, path)
        check_kind(picture, ("number",))
        content = stored(picture, amount, nearest=nearest)
        if content is None:
            return False
        self.change("store", with_signs(self.held, start, content))
        return True

    def move(self, path, other, *, right=False):
        """Moves a box or a group to another one."""
        source = where(self.layout, path)
        target = where(self.layout, other)
        self.change("move", with_move(self.held, source, target, right))

    def move_alike(self, path, other):
        """Moves all boxes that two groups both have, and tells how many; NoGroup, if one of the two is a box."""
        source = where(self.layout, path)
        target = where(self.layout, other)
        if source[2] is not None or target[2] is not None:
            raise NoGroup("a box where a group is asked for")
        ways = boxes_alike(self.layout, path, other)
        held = self.held
        for way in ways:
            held = with_move(held, where(self.layout, path + way), where(self.layout, other + way), False)
        self.change("move_alike", held)
        return len(ways)

    def signs(self):
        """All signs."""
        return self.held

    def back(self):
        """Takes back the last deed that was done and tells its word; NoBack, if there is none."""
        if len(self.done) == 0:
            raise NoBack("no deed that can be taken back")
        word, ahead = self.done.pop()
        self.undone.append((word, self.held))
        self.held = ahead
        return word

    def again(self):
        """Does again the deed that was taken back last and tells its word; NoBack, if there is none."""
        if len(self.undone) == 0:
            raise NoBack("no deed that can be done again")
        word, behind = self.undone.pop()
        self.done.append((word, self.held))
        self.held = behind
        return word

    def change(self, word, held):
        """Does a deed. All that may be refused is looked at ahead of it, so that a refused deed changes nothing."""
        self.done.append((word, self.held))
        self.undone = []
        self.held = held


def signs_at_beginning(layout):
    """All signs of a new area."""
    parts = []
    left = list(reversed(layout))
    while left:
        item = left.pop()
        if item[0] == "box":
            parts.append(blank(item[2]))
        elif item[0] == "group":
            left.extend(list(reversed(item[2])))
        elif item[0] == "table":
            left.extend(list(reversed(item[3])) * item[2])
    return "".join(parts)


def check_kind(picture, kinds):
    """NoAmount, if a picture, None for a group, is of none of these kinds."""
    if picture is None or kind_of(picture) not in kinds:
        raise NoAmount("no box of figures of this kind")


def with_signs(held, start, text):
    """All signs, with a text in place of as many of them from one on."""
    return held[:start] + text + held[start + len(text):]


def with_move(held, source, target, right):
    """All signs, with what lies at source moved to target, both told as where tells them."""
    start, size, picture = source
    other_start, other_size, other_picture = target
    content = held[start:start + size]
    if picture is None or other_picture is None:
        return with_signs(held, other_start, as_text(content, other_size, right))
    return with_signs(held, other_start, move(content, picture, other_picture, right=right))
