package orbits_test

import (
	"strings"
	"testing"

	"orbits/api"
	"orbits/orbits"
)

const mutex = `set p 3; kind mode { idle, busy, crit }
var st : [p] mode; var own : p;
rule ask(i : p) if st[i] == idle { st[i] = busy; }
rule get(i : p) if st[i] == busy & own == none { st[i] = crit; own = i; }
rule put(i : p) if st[i] == crit { st[i] = idle; own = none; }
never both(i : p, j : p) i != j & st[i] == crit & st[j] == crit;`

// full has as many of everything as there may be, and each type in each role.
const full = `set p 3; set q 2; kind k { a, b, c, d } kind l { e, f }
var v : p; var w : [q] p; var x : [p] to 3; var y : l;
rule one(i : p, j : q) if v == i & w[j] != none { x[i] = x[v] + 1 - 9; w[j] = v; }
rule two() if !(y == e) | none == v { if x[v] < 3 { y = f; } else { v = none; } }
rule three(i : q) if true { } rule four(i : q, g : q) if i != g { w[g] = w[i]; } rule five(g : p) if false { v = g; }
never six() v != none & x[v] == 3; never seven(i : p) v == i; never eight(i : p, j : q) w[j] == i;`

// simple is a model with one truth and one rule, of this guard and this body.
func simple(guard, body string) string {
	return "var x : bool; rule r() if " + guard + " { " + body + " }"
}

// rich is a model with a variable of each type, and one rule.
func rich(guard, body string) string {
	return "set p 2; set q 2; kind k { a, b } kind l { c, d } " +
		"var v : p; var w : [p] p; var n : to 2; var m : k; " +
		"rule r(i : p, j : q) if " + guard + " { " + body + " }"
}

// marked takes the mark ^ out of a text: it stands ahead of the place that is to be told.
func marked(text string) (string, int) {
	ahead, behind, found := strings.Cut(text, "^")
	if !found {
		return text, 0
	}
	return ahead + behind, len(ahead)
}

func want(t *testing.T, text string, e api.Errno, at int) {
	t.Helper()
	if gotE, gotAt := orbits.Check(text); gotE != e || gotAt != at {
		t.Errorf("P3: Check(%q) = %d, %d, want %d, %d", text, gotE, gotAt, e, at)
	}
}

func wantMarked(t *testing.T, e api.Errno, texts ...string) {
	t.Helper()
	for _, text := range texts {
		bare, at := marked(text)
		want(t, bare, e, at)
	}
}

func TestP3Good(t *testing.T) {
	wantMarked(t, api.OK,
		mutex, full, simple("x", ""), rich("true", ""),
		"var x:bool;rule r()if x{}",
		"\n\nvar x\n:\nbool\n;rule\nr ( ) if x{ }\n",
		"var settle : bool; rule ifs() if settle { } never nevers() settle;",
		simple("x", "if x { } if x { } else { } x = x;"),
		"set p 2; var x : bool; rule r(i : p) if x { } rule s(i : p) if x { } never t(i : p) x;",
		"set p 2; set q 2; var x : bool; rule r(i : p) if x { } rule s(i : q) if x { }",
	)
}

func TestP3DocumentExamples(t *testing.T) {
	wantMarked(t, api.ErrSyntax, "^")
	wantMarked(t, api.ErrType, "var x : bool; rule r() if x { x = 1; }", "var x : bool; rule r() if x < x { }")
	wantMarked(t, api.ErrName, "var x : ^q; rule r() if true { }")
	wantMarked(t, api.ErrMany, "set s ^4; var x : bool; rule r() if x { }")
	wantMarked(t, api.OK,
		"var x : to 1; rule up() if true { x = x + 1; }",
		"set s 2; var v : s; var a : [s] bool; rule r() if a[v] { }",
		strings.Replace(mutex, " & own == none", "", 1),
		strings.Replace(mutex, "own = none;", "", 1),
	)
}

func TestP3Long(t *testing.T) {
	ok := simple("x", "")
	want(t, ok+strings.Repeat(" ", 800-len(ok)), api.OK, 0)
	want(t, ok+strings.Repeat(" ", 801-len(ok)), api.ErrLong, 0)
	want(t, strings.Repeat(" ", 800), api.ErrSyntax, 800)
	want(t, strings.Repeat(" ", 801), api.ErrLong, 0)
	want(t, strings.Repeat("a", 100000), api.ErrLong, 0)
}

func TestP3Token(t *testing.T) {
	wantMarked(t, api.ErrToken,
		"^#", "^\x00", "var ^X", "var x^\t", "var x^\r\n", "var x^_y", "var ^\xc3\xa4", "var x ^> y",
		"^12", "set p ^22;", "set p 2 ^22;", "a1b^11", "var x : ^\"", "x ^* y", "x ^/ y", "x ^. y",
		strings.Repeat(" ", 799)+"^#",
	)
}

func TestP3SyntaxOfDeclarations(t *testing.T) {
	wantMarked(t, api.ErrSyntax,
		"^", " ^", "^;", "^x", "^rule r() if x { }", "^never n() x;", "^1",
		"set^", "set ^set 2;", "set p^", "set p ^p;", "set p ^;", "set p 2^", "set p 2 ^2;", "set p 2 ^var x : bool;", "set p 2;^",
		"kind^", "kind ^true { a, b }", "kind k ^a", "kind k {^", "kind k { ^}", "kind k { a^", "kind k { a ^}", "kind k { a, ^}", "kind k { a, b, ^}", "kind k { a, ^none }", "kind k { a ^b }", "kind k { a, b }^", "kind k { a, b } ^;", "kind k { a, b } ^set p 2;", "kind k { a, b ^; }",
		"var^", "var ^bool : bool;", "var x ^bool;", "var x : ^;", "var x : to ^n;", "var x : to ^;", "var x : bool ^bool;", "var x : ^1;", "var x : ^true;", "var x : ^set;",
		"var x : [^", "var x : [^]", "var x : [p ^bool;", "var x : [^bool] bool;", "var x : [p] ^;", "var x : [p] ^[p] bool;", "var x : [^2] bool;",
		"var x : bool;^", "var x : bool; ^set p 2;", "var x : bool; ^kind k { a, b }", "var x : bool; ^never n() x;", "var x : bool; ^;",
	)
}

func TestP3SyntaxOfRules(t *testing.T) {
	ahead := "var x : bool; "
	for _, rule := range []string{
		"rule^", "rule ^rule() if x { }", "rule r ^if", "rule r(^", "rule r(^1", "rule r(i^", "rule r(i^) if x { }", "rule r(i : ^)", "rule r(i : ^bool)", "rule r(i : p^", "rule r(i : p,^) if x { }", "rule r(i : p ^j : p)", "rule r(^, i : p)", "rule r(i : ^[",
		"rule r() ^x { }", "rule r() if^", "rule r() if ^{ }", "rule r() if x^", "rule r() if x ^;", "rule r() if x {^", "rule r() if x { ^else { } }", "rule r() if x { ^; }", "rule r() if x { x ^; }", "rule r() if x { x ^== x; }", "rule r() if x { x = ^; }", "rule r() if x { x = x ^}", "rule r() if x { x = x ^= x; }",
		"rule r() if x { ^none = x; }", "rule r() if x { ^1 = x; }", "rule r() if x { ^(x) = x; }", "rule r() if x { ^!x = x; }", "rule r() if x { ^{ } }",
		"rule r() if x { if x ^x = x; }", "rule r() if x { if x { } else ^if x { } }", "rule r() if x { if x { } else { } ^else { } }", "rule r() if x { if ^{ } }", "rule r() if x { } ^}",
		"rule r() if x { } ^var y : bool;", "rule r() if x { } ^set p 2;", "rule r() if x { } ^;", "rule r() if x { } ^x",
		"rule r() if x { } never^", "rule r() if x { } never n^", "rule r() if x { } never n() ^;", "rule r() if x { } never n() ^if x;", "rule r() if x { } never n() x^", "rule r() if x { } never n() x ^{ }", "rule r() if x { } never n() x; ^rule s() if x { }", "rule r() if x { } never n() x; ^;",
	} {
		wantMarked(t, api.ErrSyntax, ahead+rule)
	}
}

func TestP3SyntaxOfExpressions(t *testing.T) {
	for _, guard := range []string{
		"x ^= x", "x < x ^< x", "x == x ^!= x", "x != x ^== x", "x < x ^== x", "x ^x", "x ^1", "1 ^2", "x ^true", "x ^(x)", "x ^!x", "^!= x", "! ^= x", "x !=^= x", "x ==^= x",
		"^-1 < 2", "^+1 < 2", "1 + ^-1", "1 - ^+ 1", "x & ^& x", "x | ^| x", "x | ^& x", "^& x", "x ^!", "(^)", "(x ^{ }", "(x ^]", "((x) ^{",
		"x[x ^{", "x[^1]", "x[^]", "x[^none]", "x[^(x)]", "x[x^[x]]", "x[x ^+ x]", "x[x]^[x]", "true^[x]", "(x)^[x]", "1^[x]", "^if", "x == ^bool", "x == ^to", "x ^)", "x ^]", "x ^, x", "x ^: x",
	} {
		wantMarked(t, api.ErrSyntax, simple(guard, ""))
	}
	for _, unfinished := range []string{"", "!", "x &", "x |", "1 +", "1 -", "x ==", "x !=", "1 <", "("} {
		wantMarked(t, api.ErrSyntax, "var x : bool; rule r() if "+unfinished+"^", "var x : bool; rule r() if "+unfinished+" ^{ }")
	}
}

func TestP3NestingOfBrackets(t *testing.T) {
	round := func(n int) string { return strings.Repeat("(", n) }
	shut := func(n int) string { return strings.Repeat(")", n) }
	ifs := func(n int) string { return strings.Repeat("if x { ", n) }
	ends := func(n int) string { return strings.Repeat("} ", n) }
	w := "set p 2; var x : [p] bool; rule r(i : p) if "
	wantMarked(t, api.OK,
		simple(round(12)+"x"+shut(12), ""),
		simple(round(12)+"x"+shut(12)+" & "+round(12)+"x"+shut(12), ""),
		simple("x", ifs(11)+ends(11)),
		simple("x", ifs(10)+"if x { } else { } "+ends(10)),
		simple("x", "x = "+round(11)+"x"+shut(11)+";"),
		simple("x", ifs(5)+"x = "+round(6)+"x"+shut(6)+"; "+ends(5)),
		w+round(11)+"x[i]"+shut(11)+" { }",
		w+"x[i] { "+strings.Repeat("if x[i] { ", 10)+"x[i] = true; "+ends(10)+"}",
		simple("x", "")+" never n() "+round(12)+"x"+shut(12)+";",
	)
	wantMarked(t, api.ErrSyntax,
		simple(round(12)+"^(x"+shut(13), ""),
		simple(round(12)+"^(", ""),
		simple(round(12)+"!^(x)"+shut(12), ""),
		simple("x", ifs(11)+"if x ^{ } "+ends(11)),
		simple("x", ifs(11)+"if x ^x"),
		simple("x", "x = "+round(11)+"^(x"+shut(12)+";"),
		simple("x", ifs(5)+"x = "+round(6)+"^(x)"+shut(6)+"; "+ends(5)),
		w+round(12)+"x^[i]"+shut(12)+" { }",
		w+"x[i] { "+strings.Repeat("if x[i] { ", 11)+"x^[i] = true; "+ends(11)+"}",
		simple("x", "")+" never n() "+round(12)+"^(x)"+shut(12)+";",
	)
}

func TestP3RowsOfNot(t *testing.T) {
	row := func(n int) string { return strings.Repeat("!", n) }
	wantMarked(t, api.OK,
		simple(row(12)+"x", ""),
		simple(strings.Repeat("! ", 12)+"x", ""),
		simple(row(12)+"("+row(12)+"x)", ""),
		simple(row(12)+"x & "+row(12)+"x == "+row(12)+"x", ""),
		simple(strings.Repeat("(!", 12)+"x"+strings.Repeat(")", 12), ""),
		simple(strings.Repeat("("+row(12), 12)+"x"+strings.Repeat(")", 12), ""),
	)
	wantMarked(t, api.ErrSyntax,
		simple(row(12)+"^!x", ""),
		simple(row(12)+"^!!!!", ""),
		simple(strings.Repeat("! ", 6)+"\n"+strings.Repeat("! ", 6)+"^! x", ""),
		simple(row(12)+"("+row(12)+"^!x)", ""),
		simple("x", "x = "+row(12)+"^!x;"),
		simple(row(12)+"^!= x", ""),
	)
}

func TestP3Many(t *testing.T) {
	rest := "var x : bool; rule r() if x { }"
	rules := "rule a() if x { } rule b() if x { } rule c() if x { } rule d() if x { } rule e() if x { } "
	nevers := "never f() x; never g() x; never h() x; "
	wantMarked(t, api.OK,
		"set p 2; "+rest, "set p 3; "+rest, "set p 2; set q 3; "+rest,
		"kind k { a, b } kind l { c, d } "+rest, "kind k { a, b, c, d } "+rest,
		"var x : to 1; rule r() if true { }", "var x : to 3; rule r() if true { }", "set p 2; var x : [p] to 3; rule r() if true { }",
		"var a : bool; var b : bool; var c : bool; "+rest, "var x : bool; "+rules+nevers,
		"set p 2; var x : bool; rule r(i : p, j : p) if x { } never n(i : p, j : p) x;",
	)
	wantMarked(t, api.ErrMany,
		"set p ^0; "+rest, "set p ^1; "+rest, "set p ^4; "+rest, "set p ^9; "+rest, "set p 2; set q ^1; "+rest,
		"set p 2; set q 2; set ^s 2; "+rest, "set p 2; set q 2; set ^s 9; set t 9; "+rest,
		"kind k { a, b } kind l { c, d } kind ^m { e, f } "+rest, "kind k { a, b, c, d, ^e, f } "+rest, "kind k { a, b } kind l { c, d, e, f, ^g } "+rest,
		"kind k { a, b } kind l { c, d } kind ^m { e, f, g, h, z } "+rest,
		"var x : to ^0; rule r() if true { }", "var x : to ^4; rule r() if true { }", "set p 2; var x : [p] to ^9; rule r() if true { }",
		"var a : bool; var b : bool; var c : bool; var d : bool; var ^e : to 9; rule r() if a { }",
		"var x : bool; "+rules+"rule ^z() if x { } "+nevers,
		"var x : bool; "+rules+nevers+"never ^z() x;",
		"set p 2; var x : bool; rule r(i : p, j : p, ^k : p, l : p) if x { }",
		"set p 2; "+rest+" never n(i : p, j : p, ^k : p) x;",
		"set p 2; var x : bool; rule s(i : p, j : p, ^k : p) if x { } "+rules,
	)
}

func TestP3NamesGiven(t *testing.T) {
	rest := " rule r() if true { }"
	wantMarked(t, api.ErrName,
		"set p 2; set ^p 2; var x : bool;"+rest, "set p 2; kind ^p { a, b } var x : bool;"+rest, "set p 2; kind k { a, ^p } var x : bool;"+rest, "set p 2; var ^p : bool;"+rest, "set r 2; var x : bool; rule ^r() if x { }", "set p 2; var x : bool;"+rest+" never ^p() x;",
		"kind k { a, ^a } var x : k;"+rest, "kind k { ^k, a } var x : k;"+rest, "kind k { a, b } kind ^k { c, d } var x : k;"+rest, "kind k { a, b } kind ^a { c, d } var x : k;"+rest, "kind k { a, b } kind l { c, ^b } var x : k;"+rest, "kind k { a, b } var ^b : k;"+rest, "kind k { a, b } var ^k : k;"+rest,
		"var x : bool; var ^x : bool;"+rest, "var x : bool; rule ^x() if true { }", "var x : bool;"+rest+" rule ^r() if x { }", "var x : bool;"+rest+" never ^r() x;", "var x : bool;"+rest+" never ^x() x;", "var x : bool;"+rest+" never n() x; never ^n() x;",
	)
}

func TestP3NamesOfParameters(t *testing.T) {
	ahead := "set p 2; kind k { a, b } var x : p; "
	for _, behind := range []string{
		"rule r(i : p, ^i : p) if true { }", "rule r(^r : p) if true { }", "rule r(^x : p) if true { }", "rule r(^p : p) if true { }", "rule r(^k : p) if true { }", "rule r(i : p, ^a : p) if true { }",
		"rule r(^s : p) if true { } rule s() if true { }", "rule r(^n : p) if true { } never n() true;", "rule r() if true { } never n(^n : p) true;", "rule r() if true { } never n(^m : p) true; never m() true;", "rule r() if true { } never n(^r : p) true;", "rule r() if true { } never n(i : p, ^i : p) true;",
		"rule r(^i : q) if true { } rule i() if true { }", "rule r(i : ^q) if z { }", "rule r(i : ^k) if true { }", "rule r(i : ^x) if true { }", "rule r(i : ^a) if true { }", "rule r(i : ^i) if true { }", "rule r(i : ^r) if true { }", "rule r(j : p, i : ^j) if true { }", "rule r() if true { } never n(i : ^k) true;",
	} {
		wantMarked(t, api.ErrName, ahead+behind)
	}
}

func TestP3NamesUsed(t *testing.T) {
	rest := " rule r() if true { }"
	wantMarked(t, api.ErrName,
		"var x : ^x;"+rest, "var x : ^r;"+rest, "var x : ^y; var y : bool;"+rest, "kind k { a, b } var x : ^a;"+rest, "kind k { a, b } var x : [^k] bool;"+rest, "set p 2; var x : [^q] p;"+rest, "set p 2; var x : [p] ^q;"+rest, "var x : [^y] z;"+rest, "set p 2; var x : [^x] p;"+rest,
		simple("^y", ""), simple("^r", ""), simple("x & ^y | z", ""), simple("x", "^y = z;"), simple("x", "x = ^z;"), simple("x", "if ^y { z = z; }"), simple("x", "if x { ^z = y; } else { y = y; }"), simple("x", "if x { } else { x = ^y; }"), simple("!(x == ^y)", ""),
		simple("x", "")+" never n() ^n;", simple("x", "")+" never n() ^y;",
		rich("^p == v", ""), rich("m == ^k", ""), rich("w[^z] == v", ""), rich("^z[y] == v", ""), rich("w[^p] == v", ""), rich("true", "w[^z] = v;"), rich("true", "^z[y] = v;"), rich("true", "w[i] = ^z;"), rich("true", "^r = v;"),
		rich("v == i", "")+" rule s() if v == ^i { }", rich("v == i", "")+" never s(g : p) v == ^i;", rich("v == ^g", "")+" rule s(g : p) if v == g { }",
	)
	wantMarked(t, api.ErrType, rich("w[a] == v", ""), rich("a[i] == v", ""), rich("i[v] == v", ""))
}

func TestP3TypesGood(t *testing.T) {
	for _, guard := range []string{
		"true", "!true", "true & false | true", "1 < 2", "9 == n", "n + 1 - 2 != 8", "n < n + n", "m == a", "b != m", "a == b", "v == i", "i != i", "w[i] == v", "w[v] == w[i]", "w[i] == i",
		"v == none", "none == v", "none != i", "w[v] != none", "(none) == v", "v != ((none))", "none == (w[i])", "(v) == (none)",
		"(v == i) == (m == a)", "true == (1 < 2)", "true != false", "!(v == none)", "((n)) + (1) < (2)", "(a) == m", "j == j", "j != none",
	} {
		want(t, rich(guard, ""), api.OK, 0)
		want(t, rich("true", "if "+guard+" { } else { n = 0; }"), api.OK, 0)
	}
	for _, body := range []string{
		"v = i;", "v = v;", "v = none;", "v = (none);", "v = w[v];", "w[i] = v;", "w[v] = none;", "w[i] = ((none));", "n = 9;", "n = n + 1 - 3;", "m = a;", "m = (b);", "m = m;", "v = (i);", "w[i] = w[v];",
	} {
		want(t, rich("true", body), api.OK, 0)
	}
}

func TestP3TypesBad(t *testing.T) {
	for _, guard := range []string{
		"1", "n", "v", "i", "m", "a", "none", "w", "w[i]", "n + 1", "(none)",
		"!1", "!v", "!none", "!a", "true & 1", "1 & true", "true | v", "none | true", "a & a", "v & true", "true & (true | n)",
		"true < false", "a < b", "v < i", "none < 1", "1 < none", "n < v", "1 < true",
		"true + 1 == 1", "1 - v == 1", "a + b == 1", "none + 1 == v", "1 == 1 - none", "v - v == v",
		"true == 1", "n == true", "m == c", "c == a", "v == j", "i == j", "v == m", "n == v", "m == true", "w == w", "w == none", "(w) == (w)", "v == w", "none == none", "none != none", "(none) == none", "none == 1", "true == none", "m != none", "a == none", "none == (none == v)",
		"w[j] == v", "w[m] == v", "w[n] == v", "w[w] == v", "w[a] == v", "v[i] == v", "m[i] == a", "n[v] == 1", "i[i] == i", "a[i] == a", "w[i] == j", "w[i] == n", "w[i] == w",
		"v == i & 1", "(v == i) == 1", "true == !1",
	} {
		want(t, rich(guard, ""), api.ErrType, 0)
		want(t, rich("true", "if "+guard+" { }"), api.ErrType, 0)
		want(t, rich("true", "if true { } else { if "+guard+" { } }"), api.ErrType, 0)
	}
	want(t, simple("x", "")+" never n() 1;", api.ErrType, 0)
	want(t, simple("x", "")+" never n() x; never m() none;", api.ErrType, 0)
	want(t, rich("true", "")+" rule s(g : q) if w[g] == v { }", api.ErrType, 0)
}

func TestP3TypesOfSetting(t *testing.T) {
	for _, body := range []string{
		"v = 1;", "v = true;", "v = j;", "v = a;", "v = w;", "v = w[j];", "v = none == v;", "v = none + 1;", "v = !none;", "n = true;", "n = v;", "n = none;", "n = a;", "m = c;", "m = 1;", "m = none;", "m = w[i];", "m = n < 1;",
		"w = w;", "w = none;", "w = v;", "w = 1;", "w[i] = 1;", "w[i] = w;", "w[i] = j;", "w[j] = v;", "w[n] = v;", "w[a] = v;", "w[w] = none;", "v[i] = v;", "n[i] = 1;",
		"i = i;", "i = v;", "i = none;", "i[i] = i;", "a = a;", "a = m;", "a[i] = a;", "n = n + true;", "n = n == 1;",
	} {
		want(t, rich("true", body), api.ErrType, 0)
		want(t, rich("true", "if true { "+body+" }"), api.ErrType, 0)
		want(t, rich("true", "if true { } else { "+body+" }"), api.ErrType, 0)
		want(t, rich("true", "n = 1; "+body+" n = 2;"), api.ErrType, 0)
	}
	wantMarked(t, api.ErrType, simple("x", "x = none;"), simple("x", "x = 1 + 1;"), simple("x", "x = (1);"))
	wantMarked(t, api.OK, simple("x", "x = 1 < 1;"), simple("x", "x = !x & true;"))
}
