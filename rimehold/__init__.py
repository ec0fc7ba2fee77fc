"""Rimehold: rooms kept cold for goods of many kinds."""
