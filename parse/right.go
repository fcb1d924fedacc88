package parse

import "sorites/api"

// Right: is a clause of these symbols?
func Right(sig api.Sig, c api.Clause) bool {
	for _, l := range c {
		if !rightLit(sig, l) {
			return false
		}
	}
	return true
}

func rightLit(sig api.Sig, l api.Lit) bool {
	if !isTruth(l.B) {
		return rightTerm(sig, l.A) && rightTerm(sig, l.B)
	}
	return rightAtom(sig, l.A) && fits(sig, l.B)
}

// isTruth: is it the symbol 0 without parts, so that its literal is an atom?
func isTruth(t api.T) bool { return t.F == 0 && len(t.L) == 0 }

func rightAtom(sig api.Sig, t api.T) bool {
	return t.F > 0 && fits(sig, t) && sig.Pred[t.F] && rightTerms(sig, t.L)
}

// rightTerm doesn't look at a variable's parts, which count for nothing.
func rightTerm(sig api.Sig, t api.T) bool {
	if t.F < 0 {
		return true
	}
	return t.F > 0 && fits(sig, t) && !sig.Pred[t.F] && rightTerms(sig, t.L)
}

func rightTerms(sig api.Sig, list []api.T) bool {
	for _, t := range list {
		if !rightTerm(sig, t) {
			return false
		}
	}
	return true
}

// fits: has it a symbol that there is, with its number of parts? A symbol is
// there if sig's lists all have it, as they may be unlike in length.
func fits(sig api.Sig, t api.T) bool {
	count := min(len(sig.Names), len(sig.Arity), len(sig.Pred))
	return 0 <= t.F && t.F < count && len(t.L) == sig.Arity[t.F]
}
