"""Wardsdrawn: made-up lands parted into wards."""
