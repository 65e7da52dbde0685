"""Nets that are made box by box."""


class Draft:
    """The boxes so far of a net of so many places."""

    def __init__(self, places):
        self.places = places
        self.boxes = []

    def joined(self, ahead, behind):
        """The wire of a new box that joins these two wires."""
        self.boxes.append((ahead, behind))
        return self.places + len(self.boxes) - 1

    def net_with(self, ends):
        """The net of these boxes with these ends."""
        return (self.places, tuple(self.boxes), tuple(ends))
