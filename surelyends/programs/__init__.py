"""Programs and their texts."""
