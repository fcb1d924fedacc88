package parse

import "sorites/api"

// phrase is a term as it is written. It is read ahead of what becomes of it,
// since the kind of a name is told by what stands behind it.
type phrase struct {
	name  string
	parts []phrase
}

// sentence is a literal as it is written.
type sentence struct {
	neg  bool // it has just one of ~ and !=
	atom bool // it has neither = nor !=, and no b
	a, b phrase
}

func readFile(src string) ([][]sentence, bool) {
	t := tokensOf(src)
	var list [][]sentence
	for t.next != "" {
		c, ok := t.readClause()
		if !ok || !t.take(".") {
			return nil, false
		}
		list = append(list, c)
	}
	return list, true
}

func (t *tokens) readClause() ([]sentence, bool) {
	if t.take(never) {
		return nil, true
	}
	var list []sentence
	for {
		l, ok := t.readLiteral()
		if !ok {
			return nil, false
		}
		list = append(list, l)
		if !t.take("|") {
			return list, true
		}
	}
}

func (t *tokens) readLiteral() (sentence, bool) {
	neg := t.take("~")
	a, ok := t.readTerm(1)
	if !ok {
		return sentence{}, false
	}
	switch {
	case t.take("="):
	case t.take(unlike):
		neg = !neg
	default:
		return sentence{neg: neg, atom: true, a: a}, isSmall(a.name)
	}
	b, ok := t.readTerm(1)
	return sentence{neg: neg, a: a, b: b}, ok
}

// readTerm is told how deep the term's name stands: one that stands too deep
// isn't read, so that no source nests calls without end.
func (t *tokens) readTerm(depth int) (phrase, bool) {
	if depth > api.MaxDepth {
		return phrase{}, false
	}
	name, ok := t.takeName()
	if !ok || isGreat(name) || !t.take("(") {
		return phrase{name: name}, ok
	}
	parts, ok := t.readParts(depth + 1)
	return phrase{name, parts}, ok && t.take(")")
}

func (t *tokens) readParts(depth int) ([]phrase, bool) {
	var list []phrase
	for {
		part, ok := t.readTerm(depth)
		if !ok {
			return nil, false
		}
		list = append(list, part)
		if !t.take(",") {
			return list, true
		}
	}
}
