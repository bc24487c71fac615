package layout_test

import (
	"slices"
	"strings"
	"testing"

	"overseer/layout"
)

// P16.2: where lines end, and where there are blanks. (The tests of lexer.Pretty compare it with the words of the chapter.)
func TestLines(t *testing.T) {
	for s, want := range map[string]string{
		"":                          "",
		"a":                         "a\n",
		"x { a ; b ( c , d ) ; }":   "x {\n  a;\n  b (c, d);\n}\n",
		"} } { { a } } b":           "}\n}\n{\n  {\n    a\n  }\n}\nb\n",
		"( ( ) ) [ ] ; ; ( { , } )": "(()) [ ];\n;\n({\n  ,\n}\n)\n",
		", ) ;":                     ",);\n",
	} {
		texts := strings.Fields(s)
		before := slices.Clone(texts)
		if got := layout.Lines(texts); got != want {
			t.Errorf("Lines(%q) = %q, not %q", s, got, want)
		}
		if !slices.Equal(texts, before) {
			t.Errorf("Lines changes its argument: %q", texts)
		}
	}
}

// P16.2: there is no limit.
func TestLongText(t *testing.T) {
	if got := layout.Lines(slices.Repeat([]string{";"}, 1<<20)); got != strings.Repeat(";\n", 1<<20) {
		t.Errorf("%d bytes", len(got))
	}
	if got := layout.Lines(slices.Repeat([]string{"{"}, 5000)); len(got) != 5000*4999+2*5000 {
		t.Errorf("%d bytes", len(got))
	}
}
