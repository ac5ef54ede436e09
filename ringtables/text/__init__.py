"""Texts of tables, nets, steps, bars, signs and lists."""
