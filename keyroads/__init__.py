"""keyroads: houses that share roads take turns by keys, whatever is lost."""
