"""Stitchroom: knitted cloth told by text, counted, worked and held."""
