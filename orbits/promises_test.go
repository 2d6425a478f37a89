package orbits_test

import (
	"strings"
	"sync"
	"testing"

	"orbits/api"
	"orbits/orbits"
)

// wellFormed asks what holds of every answer of Check.
func wellFormed(t *testing.T, text string) {
	t.Helper()
	e, at := orbits.Check(text)
	if e < api.OK || e > api.ErrType {
		t.Errorf("P1: Check(%q) tells error %d", text, e)
	}
	hasPlace := e == api.ErrToken || e == api.ErrSyntax || e == api.ErrMany || e == api.ErrName
	if at < 0 || at > len(text) || !hasPlace && at != 0 {
		t.Errorf("P1: Check(%.100q) = %d, with place %d", text, e, at)
	}
}

func TestP1AnyBytes(t *testing.T) {
	for b := range 256 {
		one := string([]byte{byte(b)})
		wellFormed(t, one)
		for _, n := range []int{2, 13, 800, 801, 100000} {
			wellFormed(t, strings.Repeat(one, n))
		}
		for at := 0; at <= len(mutex); at += 3 {
			wellFormed(t, mutex[:at]+one+mutex[at:])
		}
	}
}

func TestP1AnyPiece(t *testing.T) {
	for from := range len(mutex) {
		wellFormed(t, mutex[from:])
		wellFormed(t, mutex[:from])
		for to := from; to <= len(mutex); to += 7 {
			wellFormed(t, mutex[:from]+mutex[to:])
		}
	}
}

func TestP1DeepAndLongRows(t *testing.T) {
	for _, ahead := range []string{"", "kind k ", "var x : ", "var x : bool; rule r", "var x : bool; rule r() if ", "var x : bool; rule r() if x { ", "var x : bool; rule r() if x { x = "} {
		for _, row := range []string{"(", "[", "{", "!", "!(", "(!", "x[", "if x {", "x+", "x&", "x|", "x==", "1<", "x=x;", "if x{}else{", "a,", "i:p,", "(x)|"} {
			for n := range 800 / len(row) {
				wellFormed(t, ahead+strings.Repeat(row, n))
			}
		}
	}
	terms := strings.Repeat("x&", 380) + "x"
	want(t, "var x:bool;rule r()if "+terms+"{}", api.OK, 0)
	want(t, "var x:bool;rule r()if x{"+strings.Repeat("if x{}", 120)+"}", api.OK, 0)
}

// Each text has two errors, the one that is told last standing first in the text wherever it can.
func TestP1WhichOfTwoErrors(t *testing.T) {
	long := strings.Repeat(" ", 801)
	for _, c := range []struct {
		text string
		e    api.Errno
	}{
		{"#" + long, api.ErrLong},
		{"; set" + long, api.ErrLong},
		{mutex + long, api.ErrLong},
		{"set set ^#", api.ErrToken},
		{"var x : bool ^12", api.ErrToken},
		{"set p 9; var x : q; rule r() if 1 { ^#", api.ErrToken},
		{strings.Repeat("(", 13) + "^#", api.ErrToken},
		{"set p 9; var x : bool; rule r() if x { x = ^}", api.ErrSyntax},
		{"var x : q; rule r() if y { ^; }", api.ErrSyntax},
		{"var x : bool; rule r() if x { x = 1; ^; }", api.ErrSyntax},
		{"set p 2; set q 2; set s 2; var x : bool; ^", api.ErrSyntax},
		{"var x : q; var y : to ^9; rule r() if y { }", api.ErrMany},
		{"set p 2; set p 2; set ^p 2; var x : bool; rule r() if x { }", api.ErrMany},
		{"var x : bool; rule r() if 1 { } rule s(i : p, j : p, ^k : p) if x { }", api.ErrMany},
		{"var x : bool; rule r() if 1 { x = 1; } rule s() if x == ^y { }", api.ErrName},
		{"var x : bool; rule r() if none { } never ^x() x;", api.ErrName},
		{"set p 2; var x : bool; rule r(^n : p) if n { } never n() n;", api.ErrName},
	} {
		bare, at := marked(c.text)
		want(t, bare, c.e, at)
	}
}

// Which of two errors of one sort is told: the one that stands first in the text.
func TestP1FirstOfOneSort(t *testing.T) {
	wantMarked(t, api.ErrToken, "var ^A B 12", "^12 #")
	wantMarked(t, api.ErrSyntax, "^; ;", "var ^1 : 1;")
	wantMarked(t, api.ErrMany,
		"set p ^4; set q 2; set s 2; var x : bool; rule r() if x { }",
		"set p 2; set q ^9; set s 2; var x : to 9; rule r() if x < 1 { }",
		"kind k { a, b, c, d, ^e } var x : to 0; rule r() if x < 1 { }",
		"var a : bool; var b : to ^7; var c : bool; var d : bool; var e : bool; rule r() if a { }",
	)
	wantMarked(t, api.ErrName,
		"var x : ^q; var x : bool; rule r() if y { }",
		"var x : bool; var ^x : q; rule r() if y { }",
		"set p 2; var x : bool; rule r(^s : p) if y { } rule s() if x { }",
		"set p 2; var x : bool; rule r(i : p) if ^y { } rule s(t : p) if x { } never t() x;",
		"var x : bool; rule r() if ^y[z] { }",
	)
}

func TestP2SameAnswerEachTime(t *testing.T) {
	texts := []string{mutex, full, "", "#", "set p 2;", simple("y", ""), simple("1", ""), "set s 4; var x : bool; rule r() if x { }", strings.Repeat("x", 801), rich("v == i", "w[i] = none;")}
	type answer struct {
		e  api.Errno
		at int
	}
	ask := func(text string) answer {
		e, at := orbits.Check(text)
		return answer{e, at}
	}
	var first []answer
	for _, text := range texts {
		first = append(first, ask(text))
	}
	var group sync.WaitGroup
	for worker := range 8 {
		group.Go(func() {
			for turn := range 50 {
				i := (worker*7 + turn*3) % len(texts)
				fresh := string([]byte(texts[i]))
				if got := ask(fresh); got != first[i] {
					t.Errorf("P2: Check(%.100q) = %v, then %v", fresh, first[i], got)
				}
			}
		})
	}
	group.Wait()
}
