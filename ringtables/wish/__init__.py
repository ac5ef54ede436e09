"""Lists of wishes, and nets that do them."""
