"""Papers that show which procedures are sure, and how great the chances of the others are."""
