"""Classtables: groups of few things, their classes and the table of the pure spreads on them."""
