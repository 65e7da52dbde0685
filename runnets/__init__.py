"""Running totals by nets of joins, right for all joins."""
