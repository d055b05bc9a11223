"""Tablefind: little tables found in great ones."""
