"""Exact hits and misses of loops over arrays."""
