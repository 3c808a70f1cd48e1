"""Flatmeet: flats through one point, and signed boxes, in whole numbers."""
