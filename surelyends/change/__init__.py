"""Programs that are changed: by shares, by stops, and by rewriting."""
