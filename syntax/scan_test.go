package syntax

import (
	"slices"
	"testing"
)

func TestScanCutsLongestTokens(t *testing.T) {
	for _, c := range []struct {
		text string
		want []Token
	}{
		{"", []Token{{"", 0}}},
		{" \n ", []Token{{"", 3}}},
		{"varx var x", []Token{{"varx", 0}, {"var", 5}, {"x", 9}, {"", 10}}},
		{"a1b2", []Token{{"a", 0}, {"1", 1}, {"b", 2}, {"2", 3}, {"", 4}}},
		{"1 2\n3", []Token{{"1", 0}, {"2", 2}, {"3", 4}, {"", 5}}},
		{"=", []Token{{"=", 0}, {"", 1}}},
		{"====", []Token{{"==", 0}, {"==", 2}, {"", 4}}},
		{"===", []Token{{"==", 0}, {"=", 2}, {"", 3}}},
		{"= =", []Token{{"=", 0}, {"=", 2}, {"", 3}}},
		{"!!=!==! =", []Token{{"!", 0}, {"!=", 1}, {"!=", 3}, {"=", 5}, {"!", 6}, {"=", 8}, {"", 9}}},
		{"()[]{}:;,!&|+-<", []Token{{"(", 0}, {")", 1}, {"[", 2}, {"]", 3}, {"{", 4}, {"}", 5}, {":", 6}, {";", 7}, {",", 8}, {"!", 9}, {"&", 10}, {"|", 11}, {"+", 12}, {"-", 13}, {"<", 14}, {"", 15}}},
	} {
		got, bad, ok := Scan(c.text)
		if !ok || bad != 0 || !slices.Equal(got, c.want) {
			t.Errorf("P3: Scan(%q) = %v, %d, %v, want %v", c.text, got, bad, ok, c.want)
		}
	}
}

func TestScanRefusesOtherBytes(t *testing.T) {
	const allowed = " \nabcdefghijklmnopqrstuvwxyz0123456789()[]{}:;,!&|+-<="
	for b := range 256 {
		text := "a" + string([]byte{byte(b)})
		_, bad, ok := Scan(text)
		want := slices.Contains([]byte(allowed), byte(b))
		if ok != want || !ok && bad != 1 {
			t.Errorf("P3: Scan(%q) = %d, %v", text, bad, ok)
		}
	}
}

func TestScanRefusesDigitBeforeDigit(t *testing.T) {
	for _, text := range []string{"a 12", "a 00", "a 123", "a 1 2 34"} {
		want := len("a ")
		if text == "a 1 2 34" {
			want = len("a 1 2 ")
		}
		if _, bad, ok := Scan(text); ok || bad != want {
			t.Errorf("P3: Scan(%q) = %d, %v, want %d", text, bad, ok, want)
		}
	}
}

func TestParseKeepsLeftToRightAndStrength(t *testing.T) {
	for _, c := range []struct{ guard, want string }{
		{"a - b + c - d", "(((a-b)+c)-d)"},
		{"a | b & c | d", "((a|(b&c))|d)"},
		{"a & b == c + d & e < f", "((a&(b==(c+d)))&(e<f))"},
		{"!a == !!b", "((!a)==(!(!b)))"},
		{"!(a | b) != (c & d)", "((!(a|b))!=(c&d))"},
		{"a == (b == c)", "(a==(b==c))"},
		{"x[i] + 1 < y[j] - 2", "((x[i]+1)<(y[j]-2))"},
		{"true | false & none", "(true|(false&none))"},
	} {
		tokens, _, _ := Scan("var v : bool; rule r() if " + c.guard + " { }")
		m, bad, ok := Parse(tokens)
		if !ok {
			t.Errorf("P3: %q is refused at %d", c.guard, bad)
			continue
		}
		if got := show(m.Rules[0].Guard); got != c.want {
			t.Errorf("P3: %q is read as %s, want %s", c.guard, got, c.want)
		}
	}
}

func show(e *Expr) string {
	signs := map[Op]string{And: "&", Or: "|", Equal: "==", Differ: "!=", Less: "<", Plus: "+", Minus: "-"}
	switch e.Op {
	case True:
		return "true"
	case False:
		return "false"
	case None:
		return "none"
	case Number:
		return string(rune('0' + e.Digit))
	case Value:
		if e.Place.Indexed {
			return e.Place.Name.Text + "[" + e.Place.Index.Text + "]"
		}
		return e.Place.Name.Text
	case Not:
		return "(!" + show(e.Left) + ")"
	}
	return "(" + show(e.Left) + signs[e.Op] + show(e.Right) + ")"
}
