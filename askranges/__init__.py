"""Sort values that are known only within ranges, by asking at a price."""
