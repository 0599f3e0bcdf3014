"""Halfcrumb: a loaf shared by asks."""
