"""Deepstands: charts of stands within stands that run, are tried, settled and changed under way."""
