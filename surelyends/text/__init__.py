"""Texts of papers, and a shell that is worked with by texts."""
