// Package layout puts the texts of tokens into lines. It serves the packages that print tokens: unlike lexer.Pretty, it does not ask whether they can be read again, and has no limit.
package layout

import "strings"

// indent is what each open brace puts before a line.
const indent = "  "

// Lines returns the texts of tokens in lines, as lexer.Pretty does.
func Lines(texts []string) string {
	length := 0
	lay(texts, func(part string) { length += len(part) })
	var b strings.Builder
	b.Grow(length) // where many braces are open the text is long, and should not be copied while it grows
	lay(texts, func(part string) { b.WriteString(part) })
	return b.String()
}

// lay hands over the parts of the text, one after another.
func lay(texts []string, put func(part string)) {
	blanks := strings.Repeat(indent, count(texts, "{"))
	open := 0
	for i, text := range texts {
		if text == "}" {
			open = max(open-1, 0)
		}
		switch {
		case i == 0 || endsLine(texts[i-1], text):
			put(blanks[:open*len(indent)])
		case isApart(texts[i-1], text):
			put(" ")
		}
		put(text)
		if text == "{" {
			open++
		}
		if i == len(texts)-1 || endsLine(text, texts[i+1]) {
			put("\n")
		}
	}
}

func count(texts []string, text string) int {
	n := 0
	for _, t := range texts {
		if t == text {
			n++
		}
	}
	return n
}

// endsLine reports whether a line ends between two tokens.
func endsLine(before, after string) bool {
	return before == ";" || before == "{" || before == "}" || after == "}"
}

// isApart reports whether there is a blank between two tokens of one line.
func isApart(before, after string) bool {
	return before != "(" && after != ")" && after != "," && after != ";"
}
