"""Floors without end, told by which walls cross."""
