"""What is asked of sheets: general answers, what follows, cores, least answers, all answers."""
