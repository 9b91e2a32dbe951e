"""Quickchange: a theatre's wardrobe between scenes."""
