"""Accordions: nested menus with at most one open section in each group."""
