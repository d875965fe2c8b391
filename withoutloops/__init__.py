"""Withoutloops: what cannot be asked without a loop, kept by questions without loops."""
