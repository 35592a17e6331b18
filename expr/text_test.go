package expr_test

import (
	"math/rand"
	"strings"
	"testing"

	"halfplane/api"
	"halfplane/expr"
	"halfplane/rational"
)

// reading is a text, the expression that it denotes, and its written form.
type reading struct {
	text    string
	want    api.Expr
	written string
}

// readings are texts of all kinds.
func readings() []reading {
	minus := number(-1)
	return []reading{
		{"3", number(3), "3"}, {"0", number(0), "0"}, {"-0", number(0), "0"}, {"007", number(7), "7"}, {"6/4", fraction(3, 2), "3/2"}, {"-3 / 06", fraction(-1, 2), "-1/2"}, {"0/5", number(0), "0"}, {"(3)", number(3), "3"}, {"((-3))", number(-3), "-3"},
		{"E4", e(4), "E4"}, {"E0", e(0), "E0"}, {"E0012", e(12), "E12"}, {"E1000000", e(1000000), "E1000000"}, {"E", name("E"), "E"}, {"E4a", name("E4a"), "E4a"}, {"Delta", delta, "Delta"}, {"j", j, "j"}, {"jj", name("jj"), "jj"}, {"f1", name("f1"), "f1"}, {"  a  ", a, "a"},
		{"G(3, 1, -4, 1)", integers(api.OpG, 3, 1, -4, 1), "G(3, 1, -4, 1)"}, {"G(3,1,-4,1)", integers(api.OpG, 3, 1, -4, 1), "G(3, 1, -4, 1)"}, {" G ( 3 , 001 , - 4 , -0 ) ", integers(api.OpG, 3, 1, -4, 0), "G(3, 1, -4, 0)"},
		{"eta(11)[2,-2]", integers(api.OpEta, 11, 2, -2), "eta(11)[2, -2]"}, {"eta ( 1 ) [ 24 ]", integers(api.OpEta, 1, 24), "eta(1)[24]"}, {"theta(2)[2, 1, 1, 2]", integers(api.OpTheta, 2, 2, 1, 1, 2), "theta(2)[2, 1, 1, 2]"}, {"newform(11,2,1,0)", integers(api.OpNewform, 11, 2, 1, 0), "newform(11, 2, 1, 0)"},
		{"a+b", sum(a, b), "a + b"}, {"a + b - c", sum(a, b, product(minus, c)), "a + b - c"}, {"a - 2*b", sum(a, product(number(-2), b)), "a - 2*b"}, {"-a", product(minus, a), "-a"}, {"- a - b", sum(product(minus, a), product(minus, b)), "-a - b"}, {"a - 3", sum(a, number(-3)), "a - 3"}, {"-3 + a", sum(number(-3), a), "-3 + a"}, {"a - 0*b", sum(a, product(number(0), b)), "a + 0*b"},
		{"a*b*c", product(a, b, c), "a*b*c"}, {"a*(b*c)", product(a, product(b, c)), "a*(b*c)"}, {"(a*b)*c", product(product(a, b), c), "(a*b)*c"}, {"a + (b + c)", sum(a, sum(b, c)), "a + (b + c)"}, {"(a + b) + c", sum(sum(a, b), c), "(a + b) + c"}, {"a - (b - c)", sum(a, product(minus, sum(b, product(minus, c)))), "a - (b - c)"}, {"(a)*((b))", product(a, b), "a*b"}, {"(a + b)*c", product(sum(a, b), c), "(a + b)*c"},
		{"-a*b", product(minus, a, b), "-a*b"}, {"-(a*b)", product(minus, product(a, b)), "-(a*b)"}, {"-(a + b)", product(minus, sum(a, b)), "-(a + b)"}, {"-2*a", product(number(-2), a), "-2*a"}, {"-(2)*a", product(minus, number(2), a), "-1*2*a"}, {"-1*a", product(minus, a), "-a"}, {"-1*1", product(minus, number(1)), "-1*1"}, {"-(-a)", product(minus, product(minus, a)), "-(-a)"}, {"-(-1)", product(minus, minus), "-1*(-1)"}, {"-(3)", product(minus, number(3)), "-1*3"}, {"(-1)*a", product(minus, a), "-a"}, {"-1/2*a", product(fraction(-1, 2), a), "-1/2*a"},
		{"a*(-2)", product(a, number(-2)), "a*(-2)"}, {"a*2", product(a, number(2)), "a*2"}, {"a*3/2", product(a, fraction(3, 2)), "a*3/2"}, {"(-2)*(-3)", product(number(-2), number(-3)), "-2*(-3)"}, {"2*(E4 + f)*3", product(number(2), sum(e(4), name("f")), number(3)), "2*(E4 + f)*3"}, {"b - 1*2*a", sum(b, product(minus, number(2), a)), "b - 1*2*a"}, {"b + (-1)*(-1)", sum(b, product(minus, minus)), "b - 1*(-1)"}, {"b + (-2)", sum(b, number(-2)), "b - 2"},
		{"a^3", power(a, 3), "a^3"}, {"a ^ - 3", power(a, -3), "a^-3"}, {"a^0", power(a, 0), "a^0"}, {"a^-0", power(a, 0), "a^0"}, {"3^2", power(number(3), 2), "(3)^2"}, {"-3^2", product(minus, power(number(3), 2)), "-(3)^2"}, {"(-3)^2", power(number(-3), 2), "(-3)^2"}, {"3/2^2", power(fraction(3, 2), 2), "(3/2)^2"}, {"(a^2)^3", power(power(a, 2), 3), "(a^2)^3"}, {"(a*b)^2", power(product(a, b), 2), "(a*b)^2"}, {"(a + b)^2", power(sum(a, b), 2), "(a + b)^2"}, {"E4^3 - E6^2", sum(power(e(4), 3), product(minus, power(e(6), 2))), "E4^3 - E6^2"}, {"(Delta)^-1", power(delta, -1), "Delta^-1"}, {"V(2, a)^2", power(apply(api.OpV, 2, a), 2), "V(2, a)^2"}, {"a^200", power(a, 200), "a^200"}, {"-a^2", product(minus, power(a, 2)), "-a^2"},
		{"V(2, a)", apply(api.OpV, 2, a), "V(2, a)"}, {"U(5,a+b)", apply(api.OpU, 5, sum(a, b)), "U(5, a + b)"}, {"T(3, -a*b)", apply(api.OpT, 3, product(minus, a, b)), "T(3, -a*b)"}, {"twist(-4, a)", apply(api.OpTwist, -4, a), "twist(-4, a)"}, {"twist(0, (a))", apply(api.OpTwist, 0, a), "twist(0, a)"}, {"serre(a)", api.Expr{Op: api.OpSerre, Args: []api.Expr{a}}, "serre(a)"}, {"bracket ( 1 , a , - 3 )", apply(api.OpBracket, 1, a, number(-3)), "bracket(1, a, -3)"}, {"V(1000, j)", apply(api.OpV, 1000, j), "V(1000, j)"},
	}
}

func TestParse(t *testing.T) { // P52.2
	for _, x := range readings() {
		got := parse(t, x.text)
		if !same(got, x.want) {
			t.Errorf("Parse(%q): %v, want %v", x.text, got, x.want)
		}
		if s := text(t, got); s != x.written {
			t.Errorf("Print of %q: %q, want %q", x.text, s, x.written)
		}
		if s := text(t, disguise(x.want)); s != x.written {
			t.Errorf("Print of %q in other numbers: %q, want %q", x.text, s, x.written)
		}
		if again := parse(t, x.written); !same(again, x.want) {
			t.Errorf("Parse(%q): %v, want %v", x.written, again, x.want)
		}
	}
}

func TestPrint(t *testing.T) { // P52.2, P52.5
	r := rand.New(rand.NewSource(522))
	for range 5000 {
		x := random(r)
		s := text(t, disguise(x))
		if y := parse(t, s); !same(x, y) {
			t.Fatalf("%v is written %q, which is read as %v", x, s, y)
		}
		// Blanks between the tokens change nothing.
		for _, token := range []string{"+", "-", "*", "^", "(", ")", "[", "]", ",", "/"} {
			s = strings.ReplaceAll(s, token, "  "+token+" ")
		}
		if y := parse(t, s); !same(x, y) {
			t.Fatalf("%q is read as %v", s, y)
		}
	}
	for _, x := range []api.Expr{number(0), {Op: api.OpNumber}, {Op: api.OpNumber, C: api.Rat{Num: api.Int{Neg: true}, Den: api.Int{Mag: []uint32{3}}}}} {
		if s := text(t, x); s != "0" {
			t.Errorf("0 is written %q", s)
		}
	}
}

// long returns a number with so many digits.
func long(t *testing.T, digits int) api.Expr {
	t.Helper()
	x, code := rational.Parse(strings.Repeat("9", digits))
	if code != api.OK {
		t.Fatal(code)
	}
	return api.Expr{Op: api.OpNumber, C: x}
}

func TestLongTexts(t *testing.T) { // P52.2
	for digits, want := range map[int]api.Errno{1: api.OK, 3999: api.OK, 4000: api.OK, 4001: api.ErrLarge, 5000: api.ErrLarge, 20000: api.ErrLarge} {
		x := long(t, digits)
		s, code := expr.Print(x)
		if code != want || (code == api.OK) != (len(s) == digits) || code != api.OK && s != "" {
			t.Errorf("Print of %d digits: %d bytes, %d", digits, len(s), code)
		}
		if code == api.OK && !same(parse(t, s), x) {
			t.Errorf("%d digits are read in another way", digits)
		}
		// Nobody sees how long the number is that is not in lowest terms.
		x.C.Den = x.C.Num
		if s := text(t, x); s != "1" {
			t.Errorf("1 is written with %d bytes", len(s))
		}
	}
	// The minus sign counts; a factor 1 that is left out does not.
	x := long(t, 4000)
	for y, want := range map[string]api.Errno{"": api.OK, "-": api.ErrLarge} {
		z := x
		z.C.Num.Neg = y == "-"
		if _, code := expr.Print(z); code != want {
			t.Errorf("Print of 4000 digits with the sign %q: %d", y, code)
		}
	}
	if s, code := expr.Print(sum(long(t, 3996), product(number(-1), a))); code != api.OK || len(s) != 4000 {
		t.Errorf("Print of a sum: %d bytes, %d", len(s), code)
	}
	if s, code := expr.Print(sum(long(t, 3997), product(number(-1), a))); code != api.ErrLarge || s != "" {
		t.Errorf("Print of a sum: %d bytes, %d", len(s), code)
	}
	// Texts with 4000 and 4001 bytes, also wrong ones.
	for s, want := range map[string]api.Errno{"a": api.OK, "?": api.ErrSyntax, strings.Repeat("9", 3990): api.OK} {
		s += strings.Repeat(" ", 4000-len(s))
		if _, _, code := expr.Parse(s); code != want {
			t.Errorf("a text of 4000 bytes: %d, want %d", code, want)
		}
		x, offset, code := expr.Parse(s + " ")
		if offset != 0 {
			t.Errorf("a text of 4001 bytes: the offset %d", offset)
		}
		expectError(t, "a text of 4001 bytes", x, code, api.ErrLarge)
	}
}

func TestSyntax(t *testing.T) { // P52.2: errors and offsets
	for _, x := range []struct {
		text   string
		offset int
		want   api.Errno
	}{
		{"", 0, api.ErrSyntax}, {"   ", 3, api.ErrSyntax}, {"E4 +", 4, api.ErrSyntax}, {"E4 +  ", 6, api.ErrSyntax}, {"G(4", 3, api.ErrSyntax}, {"E4 ? 5", 3, api.ErrSyntax}, {"+a", 0, api.ErrSyntax}, {"--a", 1, api.ErrSyntax}, {"a - - b", 4, api.ErrSyntax}, {"a + -b", 4, api.ErrSyntax}, {"a b", 2, api.ErrSyntax}, {"2a", 1, api.ErrSyntax}, {"4E4", 1, api.ErrSyntax}, {"E 4", 2, api.ErrSyntax}, {"a**b", 2, api.ErrSyntax}, {"a*-b", 2, api.ErrSyntax}, {"a*", 2, api.ErrSyntax}, {"*a", 0, api.ErrSyntax},
		{"a^", 2, api.ErrSyntax}, {"a^b", 2, api.ErrSyntax}, {"a^(2)", 2, api.ErrSyntax}, {"a^+2", 2, api.ErrSyntax}, {"a^2^3", 3, api.ErrSyntax}, {"a^--2", 3, api.ErrSyntax}, {"a^- b", 4, api.ErrSyntax}, {"a^1/2", 3, api.ErrSyntax}, {"(a", 2, api.ErrSyntax}, {"a)", 1, api.ErrSyntax}, {"()", 1, api.ErrSyntax}, {"(a + )", 5, api.ErrSyntax}, {"((a)", 4, api.ErrSyntax}, {"a(b)", 1, api.ErrSyntax}, {"j(2)", 1, api.ErrSyntax}, {"E4(2)", 2, api.ErrSyntax}, {"a[2]", 1, api.ErrSyntax}, {"[a]", 0, api.ErrSyntax},
		{"3/0", 2, api.ErrSyntax}, {"3/ 000", 3, api.ErrSyntax}, {"3/", 2, api.ErrSyntax}, {"3/-2", 2, api.ErrSyntax}, {"3/a", 2, api.ErrSyntax}, {"a/2", 1, api.ErrSyntax}, {"1/2/3", 3, api.ErrSyntax}, {"3.5", 1, api.ErrSyntax}, {"a\t", 1, api.ErrSyntax}, {"a\n+ b", 1, api.ErrSyntax}, {"\xff", 0, api.ErrSyntax}, {"a + é", 4, api.ErrSyntax}, {"a_b", 1, api.ErrSyntax}, {"aé", 1, api.ErrSyntax}, {"a\x00", 1, api.ErrSyntax},
		{strings.Repeat("a", 21), 0, api.ErrSyntax}, {"b + " + strings.Repeat("x", 30) + " ?", 4, api.ErrSyntax}, {"V(2, " + strings.Repeat("x", 21) + ")", 5, api.ErrSyntax},
		{"G", 1, api.ErrSyntax}, {"G 3", 2, api.ErrSyntax}, {"G()", 2, api.ErrSyntax}, {"G(a)", 2, api.ErrSyntax}, {"G(1,)", 4, api.ErrSyntax}, {"G(1 2)", 4, api.ErrSyntax}, {"G(1, 2, 3, 4", 12, api.ErrSyntax}, {"G[1, 2, 3, 4]", 1, api.ErrSyntax}, {"G(1/2, 2, 3, 4)", 3, api.ErrSyntax}, {"eta", 3, api.ErrSyntax}, {"eta(11)", 7, api.ErrSyntax}, {"eta(11, 2)", 6, api.ErrSyntax}, {"eta(11)(2)", 7, api.ErrSyntax}, {"eta(11)[]", 8, api.ErrSyntax}, {"eta(11)[2", 9, api.ErrSyntax}, {"eta(11)[2)", 9, api.ErrSyntax}, {"eta[11]", 3, api.ErrSyntax}, {"theta()[1]", 6, api.ErrSyntax}, {"newform 11", 8, api.ErrSyntax}, {"newform(11]", 10, api.ErrSyntax}, {"Delta()", 5, api.ErrSyntax},
		{"V", 1, api.ErrSyntax}, {"V(a)", 2, api.ErrSyntax}, {"V(2)", 3, api.ErrSyntax}, {"V(2 a)", 4, api.ErrSyntax}, {"V(2,)", 4, api.ErrSyntax}, {"V(2, a, b)", 6, api.ErrSyntax}, {"V(2, a", 6, api.ErrSyntax}, {"U[2, a]", 1, api.ErrSyntax}, {"T(2; a)", 3, api.ErrSyntax}, {"twist(a, b)", 6, api.ErrSyntax}, {"twist(-, b)", 7, api.ErrSyntax}, {"serre()", 6, api.ErrSyntax}, {"serre a", 6, api.ErrSyntax}, {"serre(a, b)", 7, api.ErrSyntax}, {"bracket(1, a)", 12, api.ErrSyntax}, {"bracket(a, b, c)", 8, api.ErrSyntax}, {"bracket(1, a, b, c)", 15, api.ErrSyntax},
		{"E1000001", 1, api.ErrRange}, {"a*E99999999999999999999", 3, api.ErrRange}, {"a*E12345678901234567890123456789", 3, api.ErrRange}, {"a^1000001", 2, api.ErrRange}, {"a^-1000001", 2, api.ErrRange}, {"a^ - 1000001", 3, api.ErrRange}, {"a^18446744073709551617", 2, api.ErrRange}, {"G(1, -1000001, 3)", 5, api.ErrRange}, {"eta(1000001)", 4, api.ErrRange}, {"eta(1)[2, 9000000", 10, api.ErrRange}, {"theta(1)[-9000000]", 9, api.ErrRange}, {"V(0001000001, a)", 2, api.ErrRange}, {"twist(- 1000001, a)", 6, api.ErrRange}, {"bracket(1000001, a, b)", 8, api.ErrRange}, {"newform(11, 2, 1, 1000001)", 18, api.ErrRange},
		// Of two errors that is met first which stands first.
		{"V(1000001, ?", 2, api.ErrRange}, {"V(?, 1000001)", 2, api.ErrSyntax}, {"E1000001 E1000001", 1, api.ErrRange}, {"E1000001?", 1, api.ErrRange}, {"a E1000001", 2, api.ErrSyntax}, {"a^1000001 b", 2, api.ErrRange}, {"G(1, 1000001 2000000", 5, api.ErrRange}, {"(E1000001", 2, api.ErrRange},
		// The errors of Check have the offset 0.
		{"a^201", 0, api.ErrRange}, {"b + a^-201", 0, api.ErrRange}, {"V(0, a)", 0, api.ErrRange}, {"V(1001, a)", 0, api.ErrRange}, {"U(-1, a)", 0, api.ErrRange}, {"T(1001, a)", 0, api.ErrRange}, {"bracket(7, a, b)", 0, api.ErrRange}, {"bracket(-1, a, b)", 0, api.ErrRange}, {"  G(1, 2, 3)", 0, api.ErrForm}, {"G(1, 2, 3, 4, 5)", 0, api.ErrForm}, {"newform(11, 2, 1)", 0, api.ErrForm}, {"a^201 + G(1)", 0, api.ErrRange}, {"G(1) + a^201", 0, api.ErrForm},
		{"eta(1)[" + strings.Repeat("1,", 39) + "1]", 0, api.OK}, {"eta(1)[" + strings.Repeat("1,", 40) + "1]", 0, api.ErrForm}, {"theta(1)[" + strings.Repeat("1,", 63) + "1]", 0, api.OK}, {"theta(1)[" + strings.Repeat("1,", 64) + "1]", 0, api.ErrForm},
		{strings.Repeat("a+", 58) + "a", 0, api.OK}, {strings.Repeat("a+", 59) + "a", 0, api.ErrLarge}, {strings.Repeat("a*", 58) + "a", 0, api.OK}, {strings.Repeat("a*", 59) + "a", 0, api.ErrLarge}, {strings.Repeat("serre(", 11) + "a" + strings.Repeat(")", 11), 0, api.OK}, {strings.Repeat("serre(", 12) + "a" + strings.Repeat(")", 12), 0, api.ErrLarge}, {strings.Repeat("a+", 59) + "a^201", 0, api.ErrLarge}, {strings.Repeat("a+", 59) + "a^", 120, api.ErrSyntax},
		// Brackets.
		{strings.Repeat("(", 64) + "a" + strings.Repeat(")", 64), 0, api.OK}, {strings.Repeat("(", 65) + "a" + strings.Repeat(")", 65), 64, api.ErrLarge}, {strings.Repeat("(", 100), 64, api.ErrLarge}, {strings.Repeat("(", 64), 64, api.ErrSyntax}, {strings.Repeat("(", 64) + "G(1)", 65, api.ErrLarge}, {strings.Repeat("(", 64) + "eta (1)", 68, api.ErrLarge}, {strings.Repeat("(", 64) + "V(2, a)", 65, api.ErrLarge}, {strings.Repeat("(", 64) + "a(", 65, api.ErrSyntax}, {strings.Repeat("(", 63) + "G(1, 1, 1, 1)" + strings.Repeat(")", 63), 0, api.OK}, {strings.Repeat("((", 20) + "a" + strings.Repeat("))", 20) + "+" + strings.Repeat("(", 64) + "a" + strings.Repeat(")", 64), 0, api.OK}, {strings.Repeat("-(", 65), 129, api.ErrLarge},
	} {
		got, offset, code := expr.Parse(x.text)
		if code != x.want || offset != x.offset {
			t.Errorf("Parse(%q): %d, %d; want %d, %d", x.text, offset, code, x.offset, x.want)
		}
		if code != api.OK {
			expectError(t, x.text, got, code, x.want)
		} else if expr.Check(got) != api.OK {
			t.Errorf("Parse(%q) is not valid", x.text)
		}
	}
}

func TestAnyText(t *testing.T) { // P1, P52.2, P52.5: all texts are read or refused
	r := rand.New(rand.NewSource(1))
	tokens := []string{"+", "-", "*", "^", "(", ")", "[", "]", ",", "/", " ", "1", "2", "0", "a", "E4", "V", "U(2,", "serre(", "G", "eta", "?", "Delta", "j", "\xc3"}
	read := 0
	for range 100000 {
		var b strings.Builder
		for range 1 + r.Intn(9) {
			b.WriteString(tokens[r.Intn(len(tokens))])
		}
		x, offset, code := expr.Parse(b.String())
		if code != api.OK {
			if offset < 0 || offset > b.Len() {
				t.Fatalf("Parse(%q): the offset %d", b.String(), offset)
			}
			// What stands in front of the error is the beginning of another text.
			if _, before, again := expr.Parse(b.String()[:offset]); code == api.ErrSyntax && (again == api.ErrSyntax && before < offset && strings.TrimRight(b.String()[:offset], " ") == b.String()[:offset]) {
				t.Fatalf("Parse(%q): %d, but %d without the rest", b.String(), offset, before)
			}
			continue
		}
		read++
		s := text(t, x)
		if y := parse(t, s); !same(x, y) || text(t, y) != s {
			t.Fatalf("%q is written %q", b.String(), s)
		}
	}
	if read < 1000 {
		t.Error(read)
	}
}
