"""Scanranges: what a filter costs in an index over several columns."""
