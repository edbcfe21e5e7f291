"""Neverfactored: programs over letters that are only named by equations."""
