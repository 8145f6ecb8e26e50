"""Webs of boxes and arrows, drawn in layers, and read back from the picture."""
