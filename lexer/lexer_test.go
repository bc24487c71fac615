package lexer_test

import (
	"math/rand"
	"reflect"
	"regexp"
	"slices"
	"strconv"
	"strings"
	"testing"

	"overseer/api"
	"overseer/lexer"
)

type token = lexer.Token

var (
	betweenTokens = regexp.MustCompile(`^(?:[ \t\r\n]|//[^\n]*)*`)
	runs          = regexp.MustCompile(`^[A-Za-z0-9_]+`)
	symbols       = regexp.MustCompile(`^(?:->|:=|==|!=|<=|>=|\.\.|&&|\|\||[{}()\[\],;:=<>+*!?-])`)
	numbers       = regexp.MustCompile(`^(?:0|[1-9][0-9]*)$`)
)

// result is what Scan returns.
type result struct {
	l            []token
	line, column int
	e            api.Errno
}

// resultOf is what Scan must return, by the words of the chapter, with regular expressions.
func resultOf(s string) result {
	if len(s) > 65536 {
		return result{nil, 1, 1, api.ErrLong}
	}
	var l []token
	for at := 0; ; {
		at += len(betweenTokens.FindString(s[at:]))
		t := token{Line: 1 + strings.Count(s[:at], "\n"), Column: at - strings.LastIndex(s[:at], "\n")}
		if at == len(s) {
			t.Kind = lexer.End
			return result{append(l, t), 0, 0, api.OK}
		}
		text := runs.FindString(s[at:])
		fail := func(e api.Errno) result { return result{nil, t.Line, t.Column, e} }
		switch {
		case text == "":
			if text = symbols.FindString(s[at:]); text == "" {
				return fail(api.ErrSyntax)
			}
			t.Kind = lexer.Symbol
		case text[0] > '9':
			if len(text) > 32 {
				return fail(api.ErrLong)
			}
			t.Kind = lexer.Word
		case !numbers.MatchString(text):
			return fail(api.ErrForm)
		default:
			value, err := strconv.Atoi(text)
			if err != nil || value > 65536 {
				return fail(api.ErrRange)
			}
			t.Kind, t.Value = lexer.Number, value
		}
		t.Text = text
		l = append(l, t)
		at += len(text)
	}
}

func scan(s string) result {
	l, line, column, e := lexer.Scan(s)
	return result{l, line, column, e}
}

// tokensOf are the tokens of a text that can be read.
func tokensOf(t *testing.T, s string) []token {
	t.Helper()
	r := scan(s)
	if r.e != api.OK {
		t.Fatalf("Scan(%q) = %v", s, r)
	}
	return r.l
}

// drawText draws a text, of tokens and of what cannot be read, with anything or nothing between them.
func drawText(r *rand.Rand, pieces []string, separators []string, most int) string {
	var b strings.Builder
	for range r.Intn(most) {
		b.WriteString(pieces[r.Intn(len(pieces))])
		b.WriteString(separators[r.Intn(len(separators))])
	}
	return b.String()
}

func allSymbols() []string {
	return strings.Fields("-> := == != <= >= .. && || { } ( ) [ ] , ; : = < > + - * ! ?")
}

func rightPieces() []string {
	return append(allSymbols(), "a", "_", "Z9", "model", "x_1", strings.Repeat("q", 32), "0", "7", "10", "65536")
}

func wrongPieces() []string {
	return []string{"/", ".", "&", "|", "#", "\x00", "\xff", "é", strings.Repeat("q", 33), "_" + strings.Repeat("1", 32), "00", "01", "1x", "1_", "65537", "99999", "100000", strings.Repeat("9", 40)}
}

func separators() []string {
	return []string{"", "", "", " ", "\t", "\r", "\n", "\r\n", "  ", " \n\n ", "// c\n", "//\n", "//// \r \x00\xff 1x ; \n", "\n// x ;\n  "}
}

// P16.1
func TestScan(t *testing.T) {
	r := rand.New(rand.NewSource(1))
	read, kinds := 0, map[api.Errno]int{}
	for i := range 40000 {
		pieces := rightPieces()
		if i%3 == 0 {
			pieces = append(pieces, wrongPieces()...)
		}
		s := drawText(r, pieces, separators(), 12)
		got, want := scan(s), resultOf(s)
		if !reflect.DeepEqual(got, want) {
			t.Fatalf("Scan(%q) = %v, not %v", s, got, want)
		}
		kinds[got.e]++
		read += len(got.l)
	}
	for _, e := range []api.Errno{api.OK, api.ErrSyntax, api.ErrLong, api.ErrForm, api.ErrRange} {
		if kinds[e] < 300 {
			t.Errorf("%d texts with %d", kinds[e], e)
		}
	}
	if read < 50000 {
		t.Errorf("%d tokens", read)
	}
}

// P16.1: all texts of one byte, and of two bytes that are no letters or digits.
func TestShortTexts(t *testing.T) {
	var bytes []byte
	for b := range 256 {
		if s := string([]byte{byte(b)}); !reflect.DeepEqual(scan(s), resultOf(s)) {
			t.Errorf("Scan(%q) = %v", s, scan(s))
		}
		if strings.IndexByte(" \t\r\n/->:=!<.&|{}()[],;+*?a0_", byte(b)) >= 0 || b == 11 || b == 128 {
			bytes = append(bytes, byte(b))
		}
	}
	for _, a := range bytes {
		for _, b := range bytes {
			for _, c := range bytes {
				if s := string([]byte{a, b, c}); !reflect.DeepEqual(scan(s), resultOf(s)) {
					t.Fatalf("Scan(%q) = %v", s, scan(s))
				}
			}
		}
	}
	if got := scan(""); !reflect.DeepEqual(got, result{l: []token{{Kind: lexer.End, Line: 1, Column: 1}}}) {
		t.Errorf("Scan of nothing = %v", got)
	}
	if lexer.Word != 1 || lexer.Number != 2 || lexer.Symbol != 3 || lexer.End != 4 {
		t.Error("the kinds")
	}
}

// P16.1: tokens and their places.
func TestTokens(t *testing.T) {
	want := []token{
		{lexer.Word, "a1", 0, 1, 1}, {lexer.Symbol, "->", 0, 1, 3}, {lexer.Word, "b", 0, 1, 5}, {lexer.Symbol, ":=", 0, 1, 7}, {lexer.Number, "12", 12, 1, 10}, {lexer.End, "", 0, 1, 19},
	}
	if got := scan("a1->b := 12 // end"); !reflect.DeepEqual(got, result{l: want}) {
		t.Errorf("%v", got)
	}
	want = []token{
		{lexer.Word, "_", 0, 2, 3}, {lexer.Symbol, "<", 0, 2, 4}, {lexer.Symbol, "<=", 0, 2, 6}, {lexer.Symbol, "=", 0, 2, 8}, {lexer.Number, "0", 0, 4, 2}, {lexer.Symbol, "..", 0, 4, 3}, {lexer.Number, "3", 3, 4, 5}, {lexer.End, "", 0, 5, 1},
	}
	if got := scan("// _ 1x \n\t\r_< <==//=\n\n 0..3\n"); !reflect.DeepEqual(got, result{l: want}) {
		t.Errorf("%v", got)
	}
	for s, n := range map[string]int{"a..b": 3, "a - -> b": 4, "a-->b": 4, "===": 2, ":==": 2, ":::=": 3, "....": 2, "!!==": 3, "<=>=": 2, "-->-": 3, "&&&&||": 3, "1..2": 3, "a\nb": 2, "a//b": 1} {
		if got := len(tokensOf(t, s)) - 1; got != n {
			t.Errorf("%q has %d tokens, not %d", s, got, n)
		}
	}
}

// P16.1: the errors, at the first token that cannot be read; a run of letters and digits ends at the first other byte, and is one token.
func TestErrorsOfScan(t *testing.T) {
	long := strings.Repeat("q", 33)
	for s, want := range map[string]result{
		"007":                         {nil, 1, 1, api.ErrForm},
		"1x":                          {nil, 1, 1, api.ErrForm},
		"65537":                       {nil, 1, 1, api.ErrRange},
		"a.b":                         {nil, 1, 2, api.ErrSyntax},
		"a\n  00":                     {nil, 2, 3, api.ErrForm},
		"a...b":                       {nil, 1, 4, api.ErrSyntax},
		"x /y":                        {nil, 1, 3, api.ErrSyntax},
		"a&b 1x":                      {nil, 1, 2, api.ErrSyntax},
		"a 1x a&b":                    {nil, 1, 3, api.ErrForm},
		"a\n\n" + long + " 1x":        {nil, 3, 1, api.ErrLong},
		"1" + long:                    {nil, 1, 1, api.ErrForm},
		long + "#":                    {nil, 1, 1, api.ErrLong},
		strings.Repeat("7", 33):       {nil, 1, 1, api.ErrRange},
		strings.Repeat("7", 33) + "a": {nil, 1, 1, api.ErrForm},
		"0" + strings.Repeat("7", 99): {nil, 1, 1, api.ErrForm},
		"00000":                       {nil, 1, 1, api.ErrForm},
		"18446744073709551617":        {nil, 1, 1, api.ErrRange},
		"// a\n  \r\té":               {nil, 2, 5, api.ErrSyntax},
	} {
		if got := scan(s); !reflect.DeepEqual(got, want) {
			t.Errorf("Scan(%q) = %v, not %v", s, got, want)
		}
	}
}

// P16.1: the longest text; a longer one is an error whatever it has.
func TestLongTexts(t *testing.T) {
	if l := tokensOf(t, strings.Repeat(";", 65536)); len(l) != 65537 || l[65535].Column != 65536 || l[65536].Column != 65537 {
		t.Errorf("%d tokens", len(l))
	}
	if l := tokensOf(t, strings.Repeat("\n", 65536)); len(l) != 1 || l[0].Line != 65537 || l[0].Column != 1 {
		t.Errorf("%v", l)
	}
	for _, s := range []string{strings.Repeat(";", 65537), "#" + strings.Repeat(" ", 65536), strings.Repeat(" ", 65537), "\n\n//" + strings.Repeat("x", 1<<20)} {
		if got := scan(s); !reflect.DeepEqual(got, result{nil, 1, 1, api.ErrLong}) {
			t.Errorf("%d bytes: %v", len(s), got.e)
		}
	}
	if got := scan(strings.Repeat("x", 65536)); !reflect.DeepEqual(got, result{nil, 1, 1, api.ErrLong}) {
		t.Errorf("%v", got)
	}
	if got := scan("\n" + strings.Repeat("5", 65535)); !reflect.DeepEqual(got, result{nil, 2, 1, api.ErrRange}) {
		t.Errorf("%v", got)
	}
}

// withoutPlaces are tokens without their places, and without Ends.
func withoutPlaces(l []token) []token {
	bare := []token{}
	for _, x := range l {
		if x.Kind != lexer.End {
			bare = append(bare, token{Kind: x.Kind, Text: x.Text, Value: x.Value})
		}
	}
	return bare
}

// linesOf is what Pretty returns for tokens, by the words of the chapter: the lines, each as a list of tokens, and then their texts.
func linesOf(l []token) string {
	lines := [][]string{{}}
	for _, x := range withoutPlaces(l) {
		if x.Text == "}" {
			lines = append(lines, []string{})
		}
		lines[len(lines)-1] = append(lines[len(lines)-1], x.Text)
		if x.Text == ";" || x.Text == "{" || x.Text == "}" {
			lines = append(lines, []string{})
		}
	}
	var b strings.Builder
	var open []bool
	for _, line := range lines {
		if len(line) == 0 {
			continue
		}
		if line[0] == "}" && len(open) > 0 {
			open = open[1:]
		}
		text := " " + strings.Join(line, " ") + " "
		for _, x := range []string{",", ";", ")"} {
			for strings.Contains(text, " "+x) {
				text = strings.ReplaceAll(text, " "+x, x)
			}
		}
		for strings.Contains(text, "( ") {
			text = strings.ReplaceAll(text, "( ", "(")
		}
		b.WriteString(strings.Repeat("  ", len(open)) + strings.TrimSpace(text) + "\n")
		if line[len(line)-1] == "{" {
			open = append(open, true)
		}
	}
	return b.String()
}

// P16.2, and what P16.7 says of it.
func TestJoinAndPretty(t *testing.T) {
	r := rand.New(rand.NewSource(2))
	pieces := rightPieces()
	for range 12 {
		pieces = append(pieces, "{", "}", "(", ")", ";", ",", "a", "-", "x")
	}
	for range 20000 {
		l := tokensOf(t, drawText(r, pieces, []string{" "}, 30))
		if r.Intn(3) == 0 {
			l = slices.Insert(l, r.Intn(len(l)), token{Kind: lexer.End, Text: "x", Value: 3, Line: -1})
		}
		if r.Intn(3) == 0 && l[len(l)-1].Kind == lexer.End {
			l = l[:len(l)-1]
		}
		var texts []string
		for _, x := range withoutPlaces(l) {
			texts = append(texts, x.Text)
		}
		want := strings.Join(texts, " ")
		got, e := lexer.Join(l)
		if got != want || e != api.OK {
			t.Fatalf("Join(%v) = %q, %d, not %q", l, got, e, want)
		}
		if !reflect.DeepEqual(withoutPlaces(tokensOf(t, got)), withoutPlaces(l)) {
			t.Fatalf("Join(%v) = %q has other tokens", l, got)
		}
		lines, e := lexer.Pretty(l)
		if lines != linesOf(l) || e != api.OK {
			t.Fatalf("Pretty(%v) =\n%s, %d, not\n%s", l, lines, e, linesOf(l))
		}
		if !reflect.DeepEqual(withoutPlaces(tokensOf(t, lines)), withoutPlaces(l)) {
			t.Fatalf("Pretty(%v) = %q has other tokens", l, lines)
		}
	}
}

// P16.2
func TestLines(t *testing.T) {
	for s, want := range map[string]string{
		"":               "",
		"// nothing":     "",
		"a":              "a\n",
		"x{a;b(c , d);}": "x {\n  a;\n  b (c, d);\n}\n",
		";":              ";\n",
		";;":             ";\n;\n",
		"}":              "}\n",
		"}{a":            "}\n{\n  a\n",
		"}}{{a}b}}c{":    "}\n}\n{\n  {\n    a\n  }\n  b\n}\n}\nc {\n",
		"a,b,(c)(d)[e]":  "a, b, (c) (d) [ e ]\n",
		"(((a)))()":      "(((a))) ()\n",
		"( { ) , ; }":    "({\n  ),;\n}\n",
		"(;)":            "(;\n)\n",
		"(}":             "(\n}\n",
		"-1+-x* !y":      "- 1 + - x * ! y\n",
		"a:=b?c:d":       "a := b ? c : d\n",
		"{};":            "{\n}\n;\n",
		"{a}":            "{\n  a\n}\n",
		"a ; } b":        "a;\n}\nb\n",
	} {
		if got, e := lexer.Pretty(tokensOf(t, s)); got != want || e != api.OK {
			t.Errorf("Pretty(%q) = %q, %d, not %q", s, got, e, want)
		}
	}
	for _, l := range [][]token{nil, {}, {{Kind: lexer.End}}, {{Kind: lexer.End, Text: "a"}, {Kind: lexer.End}}} {
		if s, e := lexer.Join(l); s != "" || e != api.OK {
			t.Errorf("Join(%v) = %q, %d", l, s, e)
		}
		if s, e := lexer.Pretty(l); s != "" || e != api.OK {
			t.Errorf("Pretty(%v) = %q, %d", l, s, e)
		}
	}
}

// P16.2: the errors.
func TestErrorsOfJoin(t *testing.T) {
	for i, l := range [][]token{
		{{Kind: 0, Text: "a"}},
		{{Kind: 5, Text: "a"}},
		{{Kind: -1, Text: ";"}},
		{{Kind: lexer.Word, Text: ""}},
		{{Kind: lexer.Word, Text: "a"}, {Kind: lexer.Symbol, Text: ""}, {Kind: lexer.Word, Text: "b"}},
		{{Kind: lexer.Word, Text: "a b"}},
		{{Kind: lexer.Word, Text: "a "}},
		{{Kind: lexer.Word, Text: "a\n"}},
		{{Kind: lexer.Word, Text: "a//"}},
		{{Kind: lexer.Word, Text: "//"}},
		{{Kind: lexer.Word, Text: "1"}},
		{{Kind: lexer.Word, Text: ";"}},
		{{Kind: lexer.Word, Text: "a.b"}},
		{{Kind: lexer.Word, Text: strings.Repeat("x", 33)}},
		{{Kind: lexer.Word, Text: "a", Value: 1}},
		{{Kind: lexer.Symbol, Text: "a"}},
		{{Kind: lexer.Symbol, Text: "->>"}},
		{{Kind: lexer.Symbol, Text: "."}},
		{{Kind: lexer.Symbol, Text: ";", Value: 2}},
		{{Kind: lexer.Symbol, Text: "1"}},
		{{Kind: lexer.Number, Text: "1", Value: 2}},
		{{Kind: lexer.Number, Text: "01", Value: 1}},
		{{Kind: lexer.Number, Text: "-1", Value: -1}},
		{{Kind: lexer.Number, Text: "a"}},
		{{Kind: lexer.Number, Text: "65537", Value: 65537}},
		{{Kind: lexer.Word, Text: "a"}, {Kind: lexer.Word, Text: "#"}},
		slices.Repeat([]token{{Kind: lexer.Symbol, Text: ";"}}, 32769),
		{{Kind: lexer.Word, Text: strings.Repeat("x", 1<<20)}, {Kind: lexer.Word, Text: "a"}},
	} {
		if s, e := lexer.Join(l); s != "" || e != api.ErrForm {
			t.Errorf("%d: Join = %q, %d", i, s, e)
		}
		if s, e := lexer.Pretty(l); s != "" || e != api.ErrForm {
			t.Errorf("%d: Pretty = %q, %d", i, s, e)
		}
	}
}

// P16.2: the longest lists. What Pretty returns has no limit.
func TestLongLists(t *testing.T) {
	l := slices.Repeat([]token{{Kind: lexer.Symbol, Text: ";"}}, 32768)
	if s, e := lexer.Join(l); len(s) != 65535 || e != api.OK {
		t.Errorf("Join: %d bytes, %d", len(s), e)
	}
	if s, e := lexer.Pretty(l); len(s) != 65536 || e != api.OK {
		t.Errorf("Pretty: %d bytes, %d", len(s), e)
	}
	l[0].Text = ".."
	if s, e := lexer.Join(l); len(s) != 65536 || e != api.OK {
		t.Errorf("Join: %d bytes, %d", len(s), e)
	}
	l[1].Text = ".."
	if s, e := lexer.Join(l); s != "" || e != api.ErrForm {
		t.Errorf("Join: %d bytes, %d", len(s), e)
	}
	nested := slices.Repeat([]token{{Kind: lexer.Symbol, Text: "{"}}, 3000)
	s, e := lexer.Pretty(nested)
	if len(s) != 3000*2999+2*3000 || e != api.OK {
		t.Errorf("Pretty: %d bytes, %d", len(s), e)
	}
	if got := scan(s); got.e != api.ErrLong {
		t.Errorf("Scan of Pretty: %d", got.e)
	}
}

// P16.7: places increase; comments and blanks change nothing but places; the tokens of two texts are those of both.
func TestConsequencesOfScan(t *testing.T) {
	r := rand.New(rand.NewSource(3))
	for range 5000 {
		first, second := drawText(r, rightPieces(), separators(), 12), drawText(r, rightPieces(), separators(), 12)
		a, b := scan(first), scan(second)
		if a.e != api.OK || b.e != api.OK {
			continue
		}
		for i := 1; i < len(a.l); i++ {
			x, y := a.l[i-1], a.l[i]
			if y.Line < x.Line || y.Line == x.Line && y.Column <= x.Column {
				t.Fatalf("%q: the places of %v and %v", first, x, y)
			}
		}
		want := slices.Clone(a.l[:len(a.l)-1])
		for _, x := range b.l {
			x.Line += 1 + strings.Count(first, "\n")
			want = append(want, x)
		}
		if got := tokensOf(t, first+"\n"+second); !reflect.DeepEqual(got, want) {
			t.Fatalf("%q and %q: %v, not %v", first, second, got, want)
		}
		var b2 strings.Builder
		for _, x := range a.l {
			b2.WriteString([]string{" ", "\n", " // c\n\t", "\r\n  //\n"}[r.Intn(4)] + x.Text)
		}
		if got := tokensOf(t, b2.String()); !reflect.DeepEqual(withoutPlaces(got), withoutPlaces(a.l)) {
			t.Fatalf("%q: %v, not %v", b2.String(), got, a.l)
		}
	}
}

// Arguments stay as they are.
func TestArgumentsStay(t *testing.T) {
	l := tokensOf(t, "a { b ; } // c")
	l = slices.Insert(l, 1, token{Kind: lexer.End, Text: "?"})
	before := slices.Clone(l)
	lexer.Join(l)
	lexer.Pretty(l)
	if !reflect.DeepEqual(l, before) {
		t.Errorf("%v", l)
	}
}
