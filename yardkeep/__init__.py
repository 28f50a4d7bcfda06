"""Yardkeep: a railway yard in which nothing meets."""
