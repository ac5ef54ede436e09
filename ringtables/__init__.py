"""Ringtables: which tables of bits tell the rings of a net, and nets made of wishes."""
