"""Procedures that are edited, step by step."""
