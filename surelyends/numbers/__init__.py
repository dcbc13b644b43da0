"""Fractions and rows of fractions."""
