"""Mustrows: tables with blanks, rules of what must stand, and what holds in every table that keeps them."""
