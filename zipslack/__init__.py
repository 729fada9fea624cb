"""Cloths joined by zippers. All names are imported from the modules of this package."""
