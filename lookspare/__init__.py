"""Lookspare: looks at rows that can be spared."""
