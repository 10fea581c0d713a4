package ddl

import "levee/api"

// kindWords returns the words of the kinds of columns, from api.Bool on.
func kindWords() []string {
	return []string{"bool", "int", "text"}
}

// actWords returns the words of what is done when a row that is referred to goes.
func actWords() []string {
	return []string{"restrict", "cascade", "setnull"}
}

// fnWords returns the words of what aggregates do.
func fnWords() []string {
	return []string{"count", "sum", "min", "max"}
}

// steps returns the steps that are one word or sign each, and always the same one.
func steps() map[string]api.Node {
	return map[string]api.Node{
		"true":  {Op: api.EConst, V: api.Value{Kind: api.Bool, N: 1}},
		"false": {Op: api.EConst, V: api.Value{Kind: api.Bool}},
		"null":  {Op: api.EConst},
		"+":     {Op: api.EAdd},
		"-":     {Op: api.ESub},
		"*":     {Op: api.EMul},
		"=":     {Op: api.EEq},
		"<":     {Op: api.ELess},
		"and":   {Op: api.EAnd},
		"or":    {Op: api.EOr},
		"not":   {Op: api.ENot},
	}
}

// isKept reports whether the grammar keeps a word for itself, so that it is no name.
func isKept(word string) bool {
	switch word {
	case "table", "check", "view", "from", "join", "on", "where", "pick", "group",
		"bool", "int", "text", "null", "unique", "ref", "restrict", "cascade", "setnull",
		"count", "sum", "min", "max", "true", "false", "and", "or", "not":
		return true
	}
	return false
}
