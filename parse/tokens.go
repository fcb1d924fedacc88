package parse

import "strings"

const (
	blanks = " \t\n\r"
	never  = "$false"
	unlike = "!="
)

// tokens goes through a source.
type tokens struct {
	next string // empty behind the last one
	rest string // what stands behind next
}

func tokensOf(src string) *tokens {
	t := &tokens{rest: src}
	t.move()
	return t
}

func (t *tokens) move() {
	src := behindBlanks(t.rest)
	size := tokenSize(src)
	t.next, t.rest = src[:size], src[size:]
}

// take goes on if the next token is that one.
func (t *tokens) take(token string) bool {
	if t.next != token {
		return false
	}
	t.move()
	return true
}

// takeName goes on if the next token is a small or a great name.
func (t *tokens) takeName() (string, bool) {
	name := t.next
	if name == "" || !isSmall(name) && !isGreat(name) {
		return "", false
	}
	t.move()
	return name, true
}

func behindBlanks(src string) string {
	for {
		src = strings.TrimLeft(src, blanks)
		if !strings.HasPrefix(src, "%") {
			return src
		}
		_, src, _ = strings.Cut(src, "\n")
	}
}

// tokenSize takes a byte that no token begins with for a token of its own: no
// rule of the grammar asks for it, so that the source is malformed by it.
func tokenSize(src string) int {
	switch {
	case src == "":
		return 0
	case isSmall(src) || isGreat(src):
		return nameSize(src)
	case strings.HasPrefix(src, never):
		return len(never)
	case strings.HasPrefix(src, unlike):
		return len(unlike)
	}
	return 1
}

func nameSize(src string) int {
	for n := range len(src) {
		if !inName(src[n]) {
			return n
		}
	}
	return len(src)
}

func isSmall(token string) bool { return isSmallLetter(token[0]) }

func isGreat(token string) bool { return isGreatLetter(token[0]) }

func inName(c byte) bool {
	return isSmallLetter(c) || isGreatLetter(c) || '0' <= c && c <= '9' || c == '_'
}

func isSmallLetter(c byte) bool { return 'a' <= c && c <= 'z' }

func isGreatLetter(c byte) bool { return 'A' <= c && c <= 'Z' }
