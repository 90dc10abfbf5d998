"""Flowkinds: kinds found as flows."""
