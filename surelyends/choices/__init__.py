"""Programs with choices."""
