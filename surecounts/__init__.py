"""What kept counts allow, exactly, and the plan whose worst case is least."""
