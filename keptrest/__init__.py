"""keptrest: a language with kept continuations."""
