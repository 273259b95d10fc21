"""Heldorder: rows of points held still under moves, and the lengths of the tight full rows."""
