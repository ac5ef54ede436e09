"""Tables of bits."""
