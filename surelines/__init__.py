"""What's sure about a cache: always hit, always miss, and the ways that show neither."""
