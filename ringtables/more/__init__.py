"""What more a table lets."""
