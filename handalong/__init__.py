"""Averages over all networks under local policies."""
