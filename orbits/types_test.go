package orbits_test

import (
	"testing"

	"orbits/api"
)

// typed is an expression for the model that rich makes, and its type by the document's words: truth, number, the name of a kind or set, none, or nothing at all.
type typed struct{ text, of string }

var typedAtoms = []typed{
	{"true", "truth"}, {"!false", "truth"}, {"!1", ""}, {"!none", ""}, {"n", "number"}, {"7", "number"},
	{"v", "p"}, {"i", "p"}, {"w[i]", "p"}, {"w[v]", "p"}, {"j", "q"}, {"a", "k"}, {"m", "k"}, {"c", "l"},
	{"none", "none"}, {"(none)", "none"}, {"((v))", "p"}, {"w", ""}, {"(w)", ""}, {"w[j]", ""}, {"w[w]", ""}, {"w[m]", ""}, {"v[i]", ""}, {"i[i]", ""},
}

func joined(left typed, sign string, right typed) typed {
	e := typed{text: "(" + left.text + " " + sign + " " + right.text + ")"}
	both := func(of string) bool { return left.of == of && right.of == of }
	isSet := func(of string) bool { return of == "p" || of == "q" }
	switch sign {
	case "&", "|":
		if both("truth") {
			e.of = "truth"
		}
	case "+", "-":
		if both("number") {
			e.of = "number"
		}
	case "<":
		if both("number") {
			e.of = "truth"
		}
	default:
		same := left.of == right.of && left.of != "" && left.of != "none"
		oneIsNone := isSet(left.of) && right.of == "none" || left.of == "none" && isSet(right.of)
		if same || oneIsNone {
			e.of = "truth"
		}
	}
	return e
}

func typeError(fits bool) api.Errno {
	if fits {
		return api.OK
	}
	return api.ErrType
}

func wantTyped(t *testing.T, e typed) {
	t.Helper()
	want(t, rich(e.text, ""), typeError(e.of == "truth"), 0)
	want(t, rich("true", "")+" never z(i : p, j : q) "+e.text+";", typeError(e.of == "truth"), 0)
	want(t, rich("true", "n = "+e.text+";"), typeError(e.of == "number"), 0)
	want(t, rich("true", "m = "+e.text+";"), typeError(e.of == "k"), 0)
	want(t, rich("true", "v = "+e.text+";"), typeError(e.of == "p" || e.of == "none"), 0)
	want(t, rich("true", "w[v] = "+e.text+";"), typeError(e.of == "p" || e.of == "none"), 0)
}

func TestP3TypesOfAllSmallExpressions(t *testing.T) {
	signs := []string{"&", "|", "+", "-", "<", "==", "!="}
	var pairs []typed
	for _, left := range typedAtoms {
		wantTyped(t, left)
		for _, sign := range signs {
			for _, right := range typedAtoms {
				pairs = append(pairs, joined(left, sign, right))
			}
		}
	}
	for i, pair := range pairs {
		wantTyped(t, pair)
		atom, sign := typedAtoms[i%len(typedAtoms)], signs[i/5%len(signs)]
		wantTyped(t, joined(pair, sign, atom))
		wantTyped(t, joined(atom, sign, pair))
		wantTyped(t, joined(pair, sign, pairs[i*31%len(pairs)]))
	}
}
