"""Samerun: a recorder that notes only some kinds of what happens to a small machine, and a player."""
