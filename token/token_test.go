package token

import (
	"fmt"
	"math"
	"math/big"
	"regexp"
	"slices"
	"strings"
	"testing"

	"beagle/api"
	"beagle/class"
)

// The elements of the samples.
var (
	a    = alone('a')
	b    = alone('b')
	c    = alone('c')
	full = api.Class{^uint64(0), ^uint64(0), ^uint64(0), ^uint64(0)}
	none = api.Class{}
)

// alone is the class of one byte, laid into words, as api says.
func alone(x byte) api.Class {
	var element api.Class
	element[x/64] = 1 << (x % 64)
	return element
}

// those is the class of the bytes of some.
func those(some string) api.Class {
	var element api.Class
	for i := range len(some) {
		element[some[i]/64] |= 1 << (some[i] % 64)
	}
	return element
}

// others is the class of all bytes but those of some.
func others(some string) api.Class {
	element := those(some)
	for i := range element {
		element[i] = ^element[i]
	}
	return element
}

// upTo is the class of the bytes from first to last.
func upTo(first, last int) api.Class {
	var element api.Class
	for x := first; x <= last; x++ {
		element[x/64] |= 1 << (x % 64)
	}
	return element
}

// has reads a class's bits, as api says of its words.
func has(element api.Class, x int) bool {
	return x >= 0 && x < 256 && element[x/64]&(1<<(x%64)) != 0
}

// signToken is a token of which neither N nor P is said.
func signToken(kind, at int) Token { return Token{Kind: kind, At: at} }

// counted is a Shift or a Fuzz.
func counted(kind, at, n int) Token { return Token{Kind: kind, At: at, N: n} }

// pattern is a Pattern of those elements.
func pattern(at int, elements ...api.Class) Token {
	return Token{Kind: Pattern, At: at, P: elements}
}

func times(n int, element api.Class) []api.Class {
	return slices.Repeat([]api.Class{element}, n)
}

// copied is a token with elements of its own.
func copied(k Token) Token {
	k.P = slices.Clone(k.P)
	return k
}

// same tells whether two tokens are, field by field.
func same(x, y Token) bool {
	return x.Kind == y.Kind && x.At == y.At && x.N == y.N && slices.Equal(x.P, y.P)
}

// numbers are n numbers below most, always the same ones for one seed.
func numbers(seed, n, most int) []int {
	x := uint64(88172645463325252) + uint64(seed)*2654435761
	l := make([]int, n)
	for i := range l {
		x ^= x << 13
		x ^= x >> 7
		x ^= x << 17
		l[i] = int(x>>33) % most
	}
	return l
}

// joined is a text of n of the parts.
func joined(seed, n int, parts []string) string {
	text := ""
	for _, i := range numbers(seed, n, len(parts)) {
		text += parts[i]
	}
	return text
}

// checkLex holds what Lex tells of s against the tokens that are asked.
func checkLex(t *testing.T, s string, want ...Token) {
	t.Helper()
	tokens, n, errno := Lex(s)
	if !slices.EqualFunc(tokens, want, same) || n != len(s) || errno != api.OK {
		t.Errorf("P13.1: Lex of %q tells %v, %d, %d, not %v, %d, 0", s, tokens, n, errno, want, len(s))
	}
}

// checkRefused holds what Lex tells of s against the place and the error that are asked, beside which there are no tokens.
func checkRefused(t *testing.T, s string, at int, want api.Errno) {
	t.Helper()
	tokens, n, errno := Lex(s)
	if len(tokens) != 0 || n != at || errno != want {
		t.Errorf("P13.1: Lex of %q tells %v, %d, %d, not none, %d, %d", s, tokens, n, errno, at, want)
	}
}

// checkPattern holds what Lex tells of a pattern with that text between its quotes against the elements that are asked.
func checkPattern(t *testing.T, text string, elements ...api.Class) {
	t.Helper()
	checkLex(t, `"`+text+`"`, pattern(0, elements...))
	checkLex(t, `("`+text+`"~3`, signToken(Open, 0), pattern(1, elements...), counted(Fuzz, 3+len(text), 3))
}

// checkElement holds the text of c against the one that is asked.
func checkElement(t *testing.T, c api.Class, want string) {
	t.Helper()
	if got, is := Element(c); got != want || !is {
		t.Errorf("P13.2: Element of %v is %q, %v, not %q, true", c, got, is, want)
	}
}

// checkPrint holds the text of k, wherever it stands, against the one that is asked.
func checkPrint(t *testing.T, k Token, want string) {
	t.Helper()
	for _, at := range []int{0, 7, 1000, -1, math.MinInt, math.MaxInt} {
		k.At = at
		if got, is := Print(k); got != want || !is {
			t.Errorf("P13.2: Print of %v is %q, %v, not %q, true", k, got, is, want)
		}
	}
}

// checkNoPrint asks that k has no text, wherever it stands.
func checkNoPrint(t *testing.T, k Token) {
	t.Helper()
	for _, at := range []int{0, 7, -1} {
		k.At = at
		if got, is := Print(k); got != "" || is {
			t.Errorf("P13.2: Print of %v is %q, %v, not nothing, false", k, got, is)
		}
	}
}

func TestLexOfNothing(t *testing.T) {
	checkLex(t, "")
	for _, n := range []int{1, 2, 3, 999, 1000} {
		checkLex(t, strings.Repeat(" ", n))
	}
}

func TestLexOfEachSign(t *testing.T) {
	for _, x := range []struct {
		text string
		kind int
	}{{"(", 1}, {")", 2}, {"&", 3}, {"|", 4}, {"!", 5}} {
		checkLex(t, x.text, signToken(x.kind, 0))
		checkLex(t, " "+x.text+"  ", signToken(x.kind, 1))
		checkLex(t, x.text+x.text, signToken(x.kind, 0), signToken(x.kind, 1))
	}
	checkLex(t, ">5", Token{Kind: 6, N: 5})
	checkLex(t, "~5", Token{Kind: 7, N: 5})
	checkLex(t, `"5"`, Token{Kind: 8, P: []api.Class{alone('5')}})
	if Open != 1 || Close != 2 || And != 3 || Or != 4 || Not != 5 || Shift != 6 || Fuzz != 7 || Pattern != 8 {
		t.Error("P13.1: the kinds are not counted from 1 on")
	}
}

func TestLexOfManyBytes(t *testing.T) {
	// As many as there may be.
	var opens []Token
	for i := range api.MaxBytes {
		opens = append(opens, signToken(Open, i))
	}
	checkLex(t, strings.Repeat("(", 1000), opens...)
	checkLex(t, strings.Repeat(" ", 999)+"|", signToken(Or, 999))
	checkLex(t, strings.Repeat(" ", 992)+">1000000", counted(Shift, 992, 1000000))
	checkLex(t, strings.Repeat(" ", 997)+`"a"`, pattern(997, a))
	checkRefused(t, strings.Repeat(" ", 999)+"a", 999, api.ErrTokenChar)
	checkRefused(t, strings.Repeat(" ", 999)+">", 1000, api.ErrTokenNumber)
	checkRefused(t, strings.Repeat(" ", 999)+`"`, 1000, api.ErrTokenEnd)
	checkRefused(t, strings.Repeat(")", 1000)[:998]+`"a`, 1000, api.ErrTokenEnd)
	checkRefused(t, strings.Repeat("a", 1000), 0, api.ErrTokenChar)
	// More than that, whatever they are.
	for _, n := range []int{1001, 1002, 2000, 5000, 1 << 20} {
		for _, some := range []string{" ", "(", "a", "\x00", "\xff", `"`, "~", `\`, `"a"`, `"[`, "日本", ">0"} {
			checkRefused(t, strings.Repeat(some, n)[:n], 1000, api.ErrTokenLong)
		}
		checkRefused(t, "x"+strings.Repeat(" ", n-1), 1000, api.ErrTokenLong)
		checkRefused(t, strings.Repeat(" ", n-1)+"x", 1000, api.ErrTokenLong)
	}
}

func TestLexOfAByteThatBeginsNoToken(t *testing.T) {
	for x := range 256 {
		s := string([]byte{byte(x)})
		if strings.Contains(" ()&|!>~\"", s) {
			continue
		}
		checkRefused(t, s, 0, api.ErrTokenChar)
		checkRefused(t, "  "+s+" (", 2, api.ErrTokenChar)
		checkRefused(t, "("+s, 1, api.ErrTokenChar)
		checkRefused(t, `"a"`+s, 3, api.ErrTokenChar)
		checkRefused(t, `"a" `+s+"~", 4, api.ErrTokenChar)
		if x < '0' || x > '9' {
			checkRefused(t, ">1"+s, 2, api.ErrTokenChar)
		}
		checkRefused(t, "~7 "+s, 3, api.ErrTokenChar)
	}
	for _, s := range []string{"1", "?", "[a]", `\"`, `\x41`, "-", "^", "]", "'a'", "\t(", "\n", "\r", "\u00a0", "é", "\xed\xa0\x80"} {
		checkRefused(t, s, 0, api.ErrTokenChar)
	}
}

func TestLexOfBlanksBetween(t *testing.T) {
	parts := []string{"(", `"a?"`, "~2", "&", "!", ">10", `" "`, ")", "|", ">0", "!", `"[a-c]"`}
	kinds := []Token{signToken(Open, 0), pattern(0, a, full), counted(Fuzz, 0, 2), signToken(And, 0), signToken(Not, 0), counted(Shift, 0, 10), pattern(0, alone(' ')), signToken(Close, 0), signToken(Or, 0), counted(Shift, 0, 0), signToken(Not, 0), pattern(0, those("abc"))}
	for ahead := range 4 {
		for between := range 4 {
			for behind := range 4 {
				s := strings.Repeat(" ", ahead)
				var want []Token
				for i, part := range parts {
					if i > 0 {
						s += strings.Repeat(" ", between)
					}
					k := kinds[i]
					k.At = len(s)
					want = append(want, k)
					s += part
				}
				checkLex(t, s+strings.Repeat(" ", behind), want...)
			}
		}
	}
	// No form is asked of what stands side by side.
	checkLex(t, `~1~2"a""b">3)(`, counted(Fuzz, 0, 1), counted(Fuzz, 2, 2), pattern(4, a), pattern(7, b), counted(Shift, 10, 3), signToken(Close, 12), signToken(Open, 13))
	// No other byte is a blank.
	for _, blank := range []string{"\t", "\n", "\v", "\f", "\r", "\x00", "\xa0", "\x1f", "\x7f", "\x85"} {
		checkRefused(t, "("+blank+")", 1, api.ErrTokenChar)
	}
}

func TestLexOfDigits(t *testing.T) {
	for _, x := range []struct {
		sign string
		kind int
	}{{">", Shift}, {"~", Fuzz}} {
		for _, n := range []int{0, 1, 2, 9, 10, 19, 64, 65, 90, 99, 100, 101, 1000, 12345, 67890, 99999, 100000, 999999, 1000000} {
			text := x.sign + fmt.Sprint(n)
			checkLex(t, text, counted(x.kind, 0, n))
			checkLex(t, " "+text+" ", counted(x.kind, 1, n))
			checkLex(t, text+"("+text, counted(x.kind, 0, n), signToken(Open, len(text)), counted(x.kind, len(text)+1, n))
		}
		for _, text := range []string{
			"", " ", "  ", "(", "~", ">", "a", "-1", "+1", "- 1", ".5", "x10", `"a"`, "\x00", "\xff", "/", ":", "٣",
			" 1", "  1", "\t1", "~1", ">1",
			"00", "01", "000", "007", "0000000000000000000001", "01000001", "09", "00 ",
			"1000001", "1000002", "1000009", "1000010", "1000011", "1999999", "2000000", "9999999", "10000000", "10000001",
			"2147483648", "4294967296", "4294967297", "9223372036854775807", "9223372036854775808", "18446744073709551615", "18446744073709551616", "18446744073709551617", "184467440737095516160", "340282366920938463463374607431768211456", "340282366920938463463374607431768211457",
			strings.Repeat("9", 990), "1" + strings.Repeat("0", 990), strings.Repeat("0", 990), "1000000000000000000000(", "1000001 &", "01a",
		} {
			checkRefused(t, x.sign+text, 1, api.ErrTokenNumber)
			checkRefused(t, "( "+x.sign+text, 3, api.ErrTokenNumber)
		}
		// Only the digits that stand at once are the number.
		checkLex(t, x.sign+"1 ", counted(x.kind, 0, 1))
		checkRefused(t, x.sign+"1 2", 3, api.ErrTokenChar)
		checkRefused(t, x.sign+"0 0", 3, api.ErrTokenChar)
		checkRefused(t, x.sign+"1a", 2, api.ErrTokenChar)
		checkRefused(t, x.sign+"0x1", 2, api.ErrTokenChar)
		checkRefused(t, x.sign+"1_0", 2, api.ErrTokenChar)
		checkRefused(t, x.sign+"1.0", 2, api.ErrTokenChar)
		checkRefused(t, x.sign+"1e1", 2, api.ErrTokenChar)
		checkRefused(t, x.sign+"1٣", 2, api.ErrTokenChar)
		checkRefused(t, x.sign+"1/", 2, api.ErrTokenChar)
		checkRefused(t, x.sign+"1:", 2, api.ErrTokenChar)
		checkRefused(t, x.sign+"1 "+x.sign, 4, api.ErrTokenNumber)
	}
	for _, s := range []string{"(1", ")1", "&1", "|1", "!1", "!10"} {
		checkRefused(t, s, 1, api.ErrTokenChar)
	}
	checkRefused(t, `"a"1`, 3, api.ErrTokenChar)
}

func TestLexOfPatterns(t *testing.T) {
	checkPattern(t, "a", a)
	checkPattern(t, "ab", a, b)
	checkPattern(t, " ", alone(' '))
	checkPattern(t, "a?[b-d]", a, full, those("bcd"))
	checkPattern(t, `()&|!>~`, alone('('), alone(')'), alone('&'), alone('|'), alone('!'), alone('>'), alone('~'))
	checkPattern(t, `]-^~ 01`, alone(']'), alone('-'), alone('^'), alone('~'), alone(' '), alone('0'), alone('1'))
	checkLex(t, `"a""b""a"`, pattern(0, a), pattern(3, b), pattern(6, a))
	// Without elements.
	checkRefused(t, `""`, 1, api.ErrTokenLong)
	checkRefused(t, `"" `, 1, api.ErrTokenLong)
	checkRefused(t, `"""`, 1, api.ErrTokenLong)
	checkRefused(t, `""a"`, 1, api.ErrTokenLong)
	checkRefused(t, ` "a" ""`, 6, api.ErrTokenLong)
	// Without the quote that ends it.
	checkRefused(t, `"`, 1, api.ErrTokenEnd)
	checkRefused(t, `"a`, 2, api.ErrTokenEnd)
	checkRefused(t, `"ab `, 4, api.ErrTokenEnd)
	checkRefused(t, `"a\"`, 4, api.ErrTokenEnd)
	checkRefused(t, `"?`, 2, api.ErrTokenEnd)
	checkRefused(t, `"[a]`, 4, api.ErrTokenEnd)
	checkRefused(t, `"\x00`, 5, api.ErrTokenEnd)
	checkRefused(t, `"a" "`, 5, api.ErrTokenEnd)
	checkRefused(t, `"a"b"`, 3, api.ErrTokenChar)
}

func TestLexOfManyElements(t *testing.T) {
	for _, x := range []struct {
		text    string
		element api.Class
	}{{"a", a}, {"?", full}, {`\"`, alone('"')}, {`\x80`, alone(128)}, {"[ab]", those("ab")}, {"[^a]", others("a")}, {`[\]]`, alone(']')}} {
		for _, n := range []int{1, 2, 63, 64} {
			checkPattern(t, strings.Repeat(x.text, n), times(n, x.element)...)
			checkRefused(t, `"`+strings.Repeat(x.text, n), 1+n*len(x.text), api.ErrTokenEnd)
		}
		many := strings.Repeat(x.text, 64)
		// Whatever begins where there are so many ahead.
		for _, more := range []string{"a", "?", "[a]", `\x00`, `\q`, `\`, `\x`, "[", "[]", "[b-a]", "\t", "\x00", "\x7f", "\xff", " ", "]", "é"} {
			checkRefused(t, `"`+many+more+`"`, 1+len(many), api.ErrTokenLong)
			checkRefused(t, `"`+many+more, 1+len(many), api.ErrTokenLong)
			checkRefused(t, ` ("`+many+more+`" &`, 3+len(many), api.ErrTokenLong)
			// One fewer ahead: it is told of itself.
			fewer := `"` + many[len(x.text):] + more
			at, errno := placeOf(fewer)
			checkRefused(t, fewer, at, errno)
			if errno == api.ErrTokenLong {
				t.Errorf("P13.1: %q has not too many elements", fewer)
			}
		}
		checkRefused(t, `"`+many+x.text+`"`, 1+len(many), api.ErrTokenLong)
	}
	// What is told first is what stands first.
	checkRefused(t, `"`+strings.Repeat("a", 10)+"\t"+strings.Repeat("a", 60)+`"`, 11, api.ErrTokenChar)
	// Each pattern has as many of its own.
	checkLex(t, `"`+strings.Repeat("a", 64)+`""`+strings.Repeat("b", 64)+`"`, pattern(0, times(64, a)...), pattern(66, times(64, b)...))
}

func TestLexOfElements(t *testing.T) {
	for x := range 256 {
		s := string([]byte{byte(x)})
		switch {
		case x < 32 || x > 126:
			checkRefused(t, `"`+s+`"`, 1, api.ErrTokenChar)
			checkRefused(t, `"`+s, 1, api.ErrTokenChar)
			checkRefused(t, `"ab?[c]`+s+`"`, 7, api.ErrTokenChar)
		case strings.Contains(`"?[\`, s):
		default:
			checkPattern(t, s, alone(byte(x)))
			checkPattern(t, "a"+s+s, a, alone(byte(x)), alone(byte(x)))
			checkRefused(t, `"`+s, 2, api.ErrTokenEnd)
		}
	}
	checkPattern(t, "?", full)
	checkPattern(t, "???", full, full, full)
	checkRefused(t, `"é"`, 1, api.ErrTokenChar)
	checkRefused(t, "\"a\n\"", 2, api.ErrTokenChar)
}

func TestLexOfEscapes(t *testing.T) {
	for x := range 256 {
		s := string([]byte{byte(x)})
		element, text := alone(byte(x)), fmt.Sprintf(`\x%02x`, x)
		checkPattern(t, text, element)
		checkPattern(t, "a"+text+"b", a, element, b)
		checkPattern(t, "["+text+"]", element)
		checkPattern(t, "[ab"+text+"]", class.Or(those("ab"), element))
		checkPattern(t, "[^"+text+"]", class.Not(element))
		if strings.Contains(`\"?[]-^`, s) {
			checkPattern(t, `\`+s, element)
			checkPattern(t, `a\`+s+`a`, a, element, a)
			checkPattern(t, `[\`+s+`]`, element)
			checkPattern(t, `[a\`+s+`]`, class.Or(a, element))
			continue
		}
		// An x has no digits behind it here.
		checkRefused(t, `"\`+s+`"`, 1, api.ErrTokenEscape)
		checkRefused(t, `"\`+s, 1, api.ErrTokenEscape)
		checkRefused(t, `"ab\`+s+`a"`, 3, api.ErrTokenEscape)
		checkRefused(t, `"[\`+s+`]"`, 2, api.ErrTokenEscape)
		checkRefused(t, `"[a\`+s, 3, api.ErrTokenEscape)
		checkRefused(t, `"[^\`+s, 3, api.ErrTokenEscape)
		checkRefused(t, `"[a-\`+s+`]"`, 4, api.ErrTokenEscape)
		// Neither place of an x has another byte than a digit.
		if !strings.Contains("0123456789abcdef", s) {
			for _, digits := range []string{s + "0", "0" + s, s + s, s + "f", "f" + s, s + "a", "9" + s} {
				checkRefused(t, `"\x`+digits+`"`, 1, api.ErrTokenEscape)
				checkRefused(t, `"?[\x`+digits+`]"`, 3, api.ErrTokenEscape)
			}
		}
	}
}

func TestLexOfWhatIsNoEscape(t *testing.T) {
	for _, s := range []string{`"\`, `"\x`, `"\x"`, `"\x1`, `"\x1"`, `"\xa`, `"\xa"`, `"\xA0"`, `"\x0A"`, `"\xG0"`, `"\x0g"`, `"\X00"`, `"\q"`, `"\n"`, `"\0"`, `"\ "`, `"\a`, `"\(`, `"\'"`, "\"\\\t\"", "\"\\\xff\"", `"\x 0"`, `"\x0 0"`, `"\x-1"`, `"\x+1"`, `"\x0x"`, `"\u0041"`, `"\x1\x11"`} {
		checkRefused(t, s, 1, api.ErrTokenEscape)
		checkRefused(t, "("+s, 2, api.ErrTokenEscape)
		checkRefused(t, `"b`+s[1:], 2, api.ErrTokenEscape)
		checkRefused(t, `"[`+s[1:], 2, api.ErrTokenEscape)
		checkRefused(t, `"[^`+s[1:], 3, api.ErrTokenEscape)
		checkRefused(t, `"[b-`+s[1:], 4, api.ErrTokenEscape)
		checkRefused(t, `"[b`+s[1:], 3, api.ErrTokenEscape)
	}
	// A backslash that is escaped begins nothing.
	checkPattern(t, `\\x00`, alone('\\'), alone('x'), alone('0'), alone('0'))
	checkPattern(t, `\x5c\"`, alone('\\'), alone('"'))
	checkPattern(t, `\x123`, alone(0x12), alone('3'))
	checkRefused(t, `\x00`, 0, api.ErrTokenChar)
	checkRefused(t, `"a"\"`, 3, api.ErrTokenChar)
}

func TestLexOfClasses(t *testing.T) {
	for _, x := range []struct {
		text string
		c    api.Class
	}{
		{"[a]", a}, {"[ab]", those("ab")}, {"[ba]", those("ab")}, {"[ac]", those("ac")}, {"[aa]", a}, {"[aba]", those("ab")},
		{"[a-c]", those("abc")}, {"[a-a]", a}, {"[a-b]", those("ab")}, {"[a-cb-d]", those("abcd")}, {"[a-cx]", those("abcx")}, {"[xa-c]", those("abcx")}, {"[a-cx-z]", those("abcxyz")}, {"[a-ce-g0]", those("abcefg0")}, {"[a-zA-Z0-9_]", class.Or(class.Or(upTo('a', 'z'), upTo('A', 'Z')), class.Or(upTo('0', '9'), alone('_')))},
		{"[ -~]", upTo(' ', '~')}, {"[ ]", alone(' ')}, {"[?]", alone('?')}, {"[a?]", those("a?")}, {"[?-A]", those("?@A")}, {"[()&|!>~]", those("()&|!>~")}, {"[!-#]", those(`!"#`)}, {"[Z-a]", upTo('Z', 'a')},
		{`[\]]`, alone(']')}, {`[\[]`, alone('[')}, {`[\-]`, alone('-')}, {`[\^]`, alone('^')}, {`[\^a]`, those("^a")}, {`[\\]`, alone('\\')}, {`[\"]`, alone('"')}, {`[\?]`, alone('?')}, {`[\x00]`, alone(0)}, {`[a\-c]`, those("a-c")}, {`[a\^]`, those("a^")},
		{`[\--a]`, upTo('-', 'a')}, {`[+-\-]`, those("+,-")}, {`[\[-\]]`, those(`[\]`)}, {`[\\-\]]`, those(`\]`)}, {`[\x00-\x1f]`, upTo(0, 31)}, {`[\x80-\xff]`, upTo(128, 255)}, {`[a-\x7f]`, upTo('a', 127)}, {`[\x7e-~]`, alone('~')}, {`[\x7f-\x7f]`, alone(127)}, {`[\x3f-\x40]`, those("?@")}, {`[\x7f-\x80]`, those("\x7f\x80")}, {`[\x00-\xfe]`, others("\xff")}, {`[\x01-\xff]`, others("\x00")},
		{`[\x00-\xff]`, full}, {`[\x00-\x7f\x80-\xff]`, full}, {`[\x80-\xff\x00-\x7f]`, full}, {`[a\x00-\xffb]`, full}, {`[\x00-ab-\xff]`, full},
		{"[^a]", others("a")}, {"[^ab]", others("ab")}, {"[^a-c]", others("abc")}, {"[^aa]", others("a")}, {`[^\^]`, others("^")}, {`[^\x00-\xfe]`, alone(255)}, {`[^\x01-\xff]`, alone(0)}, {`[^\x00-\x60b-\xff]`, a}, {`[^\x00-\x60\x63-\xff]`, those("ab")}, {"[^ -~]", class.Or(upTo(0, 31), upTo(127, 255))}, {`[^\x00]`, upTo(1, 255)}, {`[^\xff]`, upTo(0, 254)}, {`[^\]]`, others("]")},
	} {
		checkPattern(t, x.text, x.c)
		checkPattern(t, x.text+x.text+"?", x.c, x.c, full)
		checkPattern(t, "]"+x.text+"]", alone(']'), x.c, alone(']'))
		// Anywhere it lacks something, the end is told, or an escape that is none.
		for n := 1; n < len(x.text); n++ {
			cut := `"` + x.text[:n]
			at, errno := placeOf(cut)
			checkRefused(t, cut, at, errno)
			if errno != api.ErrTokenEnd && errno != api.ErrTokenEscape {
				t.Errorf("P13.1: %q can go on", cut)
			}
		}
	}
}

func TestLexOfWhatIsNoClass(t *testing.T) {
	for _, x := range []struct {
		s     string
		at    int
		errno api.Errno
	}{
		// Without items; without bytes.
		{`"[]"`, 1, api.ErrTokenClass}, {`"[]`, 1, api.ErrTokenClass}, {`"[^]"`, 1, api.ErrTokenClass}, {`"[^]`, 1, api.ErrTokenClass}, {`"a[]"`, 2, api.ErrTokenClass}, {`"[a][]"`, 4, api.ErrTokenClass}, {`"[]a]"`, 1, api.ErrTokenClass}, {`"[^]a]"`, 1, api.ErrTokenClass},
		{`"[^\x00-\xff]"`, 1, api.ErrTokenClass}, {`"[^\x00-\xff]`, 1, api.ErrTokenClass}, {`"a?[^\x00-\x7f\x80-\xff]"`, 3, api.ErrTokenClass}, {`"[^\x00-ab-\xff]"`, 1, api.ErrTokenClass}, {`"[^\x00-\xffa]"`, 1, api.ErrTokenClass},
		// These are asked at the bracket that closes: what is ahead of it comes first.
		{`"[^\x00-\xff`, 12, api.ErrTokenEnd}, {`"[^\x00-\xff[]"`, 12, api.ErrTokenClass}, {`"[^\x00-\xff\q]"`, 12, api.ErrTokenEscape}, {`"[^\x00-\xffb-a]"`, 13, api.ErrTokenClass}, {"\"[^\\x00-\\xff\t]\"", 12, api.ErrTokenClass},
		// Where something lacks.
		{`"[`, 2, api.ErrTokenEnd}, {`"[^`, 3, api.ErrTokenEnd}, {`"[a`, 3, api.ErrTokenEnd}, {`"[^a`, 4, api.ErrTokenEnd}, {`"[a-`, 4, api.ErrTokenEnd}, {`"[a-c`, 5, api.ErrTokenEnd}, {`"[\]`, 4, api.ErrTokenEnd}, {`"a[bc-d`, 7, api.ErrTokenEnd}, {`"[a-a`, 5, api.ErrTokenEnd},
		// A range the wrong way round: at its -, asked behind its second byte.
		{`"[b-a]"`, 3, api.ErrTokenClass}, {`"[b-a`, 3, api.ErrTokenClass}, {`"[b-a\q]"`, 3, api.ErrTokenClass}, {`"[b-a-]"`, 3, api.ErrTokenClass}, {`"[b-\x61]"`, 3, api.ErrTokenClass}, {`"[\x62-a]"`, 6, api.ErrTokenClass}, {`"[\xff-\x00]"`, 6, api.ErrTokenClass}, {`"[\xff-\xfe]"`, 6, api.ErrTokenClass}, {`"[a-cz-y]"`, 6, api.ErrTokenClass}, {`"[^b-a]"`, 4, api.ErrTokenClass}, {`"?[a\]-\[]"`, 6, api.ErrTokenClass}, {`"[z-a-]"`, 3, api.ErrTokenClass}, {`"[\x80-a]"`, 6, api.ErrTokenClass}, {`"[\x80-\x7f]"`, 6, api.ErrTokenClass}, {`"[~- ]"`, 3, api.ErrTokenClass},
		{`"[b-\q]"`, 4, api.ErrTokenEscape}, {`"[b-\x6]"`, 4, api.ErrTokenEscape}, {`"[b-\`, 4, api.ErrTokenEscape}, {`"[b-`, 4, api.ErrTokenEnd},
		// A range without its second byte.
		{`"[a-]"`, 4, api.ErrTokenClass}, {`"[a-]`, 4, api.ErrTokenClass}, {`"[^a-]"`, 5, api.ErrTokenClass}, {`"[a--]"`, 4, api.ErrTokenClass}, {`"[a-^]"`, 4, api.ErrTokenClass}, {`"[a-["`, 4, api.ErrTokenClass}, {`"[a-"]"`, 4, api.ErrTokenClass}, {"\"[a-\t]\"", 4, api.ErrTokenClass}, {"\"[a-\xff]\"", 4, api.ErrTokenClass},
		// A - first, and behind a range.
		{`"[-]"`, 2, api.ErrTokenClass}, {`"[-a]"`, 2, api.ErrTokenClass}, {`"[-`, 2, api.ErrTokenClass}, {`"[^-]"`, 3, api.ErrTokenClass}, {`"[^-a]"`, 3, api.ErrTokenClass}, {`"[--a]"`, 2, api.ErrTokenClass}, {`"[a-c-]"`, 5, api.ErrTokenClass}, {`"[a-c-e]"`, 5, api.ErrTokenClass}, {`"[a-a-a]"`, 5, api.ErrTokenClass}, {`"[ab-c-d]"`, 6, api.ErrTokenClass},
		// A ^ that is not the first.
		{`"[a^]"`, 3, api.ErrTokenClass}, {`"[^^]"`, 3, api.ErrTokenClass}, {`"[^a^]"`, 4, api.ErrTokenClass}, {`"[a-c^]"`, 5, api.ErrTokenClass}, {`"[^^`, 3, api.ErrTokenClass}, {`"[^^a]"`, 3, api.ErrTokenClass},
		// A bracket that opens, and a quote, inside.
		{`"[[]"`, 2, api.ErrTokenClass}, {`"[a[]"`, 3, api.ErrTokenClass}, {`"[a[b]]"`, 3, api.ErrTokenClass}, {`"[^[]"`, 3, api.ErrTokenClass}, {`"["]"`, 2, api.ErrTokenClass}, {`"[a"`, 3, api.ErrTokenClass}, {`"[a"]"`, 3, api.ErrTokenClass}, {`"[^"`, 3, api.ErrTokenClass}, {`"["`, 2, api.ErrTokenClass},
	} {
		checkRefused(t, x.s, x.at, x.errno)
		checkRefused(t, " ~5"+x.s, x.at+3, x.errno)
	}
}

func TestLexOfEachByteInAClass(t *testing.T) {
	for x := range 256 {
		s, element := string([]byte{byte(x)}), alone(byte(x))
		if x < 32 || x > 126 || s == `"` || s == "[" {
			checkRefused(t, `"[`+s+`]"`, 2, api.ErrTokenClass)
			checkRefused(t, `"[^`+s+`]"`, 3, api.ErrTokenClass)
			checkRefused(t, `"[ab`+s+`]"`, 4, api.ErrTokenClass)
			checkRefused(t, `"[a-`+s+`]"`, 4, api.ErrTokenClass)
			checkRefused(t, `"[a-b`+s+`]"`, 5, api.ErrTokenClass)
			checkRefused(t, `"[a`+s, 3, api.ErrTokenClass)
			continue
		}
		if strings.Contains(`]-^\`, s) {
			continue // these are told one by one above
		}
		checkPattern(t, "["+s+"]", element)
		checkPattern(t, "[^"+s+"]", class.Not(element))
		checkPattern(t, "["+s+"-"+s+"]", element)
		checkPattern(t, "["+s+"-~ -"+s+"]", upTo(' ', '~'))
		checkPattern(t, `[\x00-`+s+"]", upTo(0, x))
		checkPattern(t, "["+s+`-\xff]`, upTo(x, 255))
		checkRefused(t, fmt.Sprintf(`"[%s-\x%02x]"`, s, x-1), 3, api.ErrTokenClass)
	}
}

func TestLexTellsTheFirst(t *testing.T) {
	for _, x := range []struct {
		s     string
		at    int
		errno api.Errno
	}{
		{`a >01`, 0, api.ErrTokenChar}, {`>01 a`, 1, api.ErrTokenNumber}, {`""a`, 1, api.ErrTokenLong}, {`"\q" ""`, 1, api.ErrTokenEscape}, {`"[]" "\q"`, 1, api.ErrTokenClass},
		{"\"\t\\q[]", 1, api.ErrTokenChar}, {"\"\\q\t[]", 1, api.ErrTokenEscape}, {"\"[]\t\\q", 1, api.ErrTokenClass}, {"\"a\t", 2, api.ErrTokenChar}, {`"a" >`, 5, api.ErrTokenNumber}, {`"a"~ "`, 4, api.ErrTokenNumber},
		{`"[\qb-a]`, 2, api.ErrTokenEscape}, {`"[b-a\q]`, 3, api.ErrTokenClass}, {`"[-\q`, 2, api.ErrTokenClass}, {`"[\q-`, 2, api.ErrTokenEscape}, {`( & ) x ]`, 6, api.ErrTokenChar}, {`"a" "b`, 6, api.ErrTokenEnd}, {`"a"x"b`, 3, api.ErrTokenChar},
		{`>1000001~01`, 1, api.ErrTokenNumber}, {`>1000000~01`, 9, api.ErrTokenNumber}, {`"a[b]c\d" 1`, 6, api.ErrTokenEscape}, {`"a[b]c" 1`, 8, api.ErrTokenChar},
	} {
		checkRefused(t, x.s, x.at, x.errno)
	}
}

// The texts of an element that is one byte, and of a byte in a class; and as much of a class as may stand, whether it goes on or not.
const (
	escapeText = `\\[\\"?\[\]^-]|\\x[0-9a-f][0-9a-f]`
	byteText   = `(?:` + escapeText + `|[ !#-,.-Z_-~])`
)

var (
	elementForm = regexp.MustCompile(`^(?:` + escapeText + `|[ !#->@-Z\]-~])`)
	itemForm    = regexp.MustCompile(`(` + byteText + `)(?:-(` + byteText + `))?`)
	classForm   = longest(`^\[\^?(?:` + byteText + `(?:-` + byteText + `)?)*(?:` + byteText + `-)?`)
	digitsForm  = regexp.MustCompile(`^[0-9]*`)
)

// longest takes as much as may be.
func longest(form string) *regexp.Regexp {
	all := regexp.MustCompile(form)
	all.Longest()
	return all
}

// valueOf tells the byte that an escape or a sign is.
func valueOf(text string) int {
	var x int
	if _, err := fmt.Sscanf(text, `\x%02x`, &x); err == nil {
		return x
	}
	return int(text[len(text)-1])
}

// classOf tells by the forms the class at a place of s, and the place behind it, or that of an error.
func classOf(s string, open int) (api.Class, int, api.Errno) {
	body := classForm.FindString(s[open:])
	end, read := open+len(body), open+1+strings.Count(body[:min(2, len(body))], "^")
	items, behind := none, read
	for _, m := range itemForm.FindAllStringSubmatchIndex(s[read:end], -1) {
		first := valueOf(s[read+m[2] : read+m[3]])
		last := first
		if m[4] >= 0 {
			last = valueOf(s[read+m[4] : read+m[5]])
		}
		if last < first {
			return none, read + m[3], api.ErrTokenClass
		}
		items, behind = class.Or(items, upTo(first, last)), read+m[1]
	}
	// Behind the items there may be the - of a range that lacks its second byte.
	closes := strings.HasPrefix(s[end:], "]") && behind == end
	switch {
	case end == len(s):
		return none, end, api.ErrTokenEnd
	case closes && items == none:
		return none, open, api.ErrTokenClass
	case closes && strings.HasPrefix(body, "[^"):
		if items == full {
			return none, open, api.ErrTokenClass
		}
		return class.Not(items), end + 1, api.OK
	case closes:
		return items, end + 1, api.OK
	case s[end] == '\\':
		return none, end, api.ErrTokenEscape
	}
	return none, end, api.ErrTokenClass
}

// elementsOf tells by the forms the elements from a place of s on, and the place behind the quote, or that of an error.
func elementsOf(s string, at int) ([]api.Class, int, api.Errno) {
	var elements []api.Class
	for at < len(s) {
		form := elementForm.FindString(s[at:])
		element, end, errno := none, at+len(form), api.OK
		switch {
		case s[at] == '"' && len(elements) > 0:
			return elements, at + 1, api.OK
		case s[at] == '"' || len(elements) == 64:
			return nil, at, api.ErrTokenLong
		case s[at] == '?':
			element, end = full, at+1
		case s[at] == '[':
			element, end, errno = classOf(s, at)
		case form != "":
			element = alone(byte(valueOf(form)))
		case s[at] == '\\':
			errno = api.ErrTokenEscape
		default:
			errno = api.ErrTokenChar
		}
		if errno != api.OK {
			return nil, end, errno
		}
		elements, at = append(elements, element), end
	}
	return nil, at, api.ErrTokenEnd
}

// lexOf tells by the forms what Lex is to tell of s.
func lexOf(s string) ([]Token, int, api.Errno) {
	if len(s) > 1000 {
		return nil, 1000, api.ErrTokenLong
	}
	var tokens []Token
	for at := 0; at < len(s); {
		k, end, errno := Token{Kind: strings.Index("_()&|!>~\"", s[at:at+1]), At: at}, at+1, api.OK
		switch k.Kind {
		case 6, 7:
			digits := digitsForm.FindString(s[at+1:])
			n, is := new(big.Int).SetString(digits, 10)
			if !is || n.String() != digits || n.Cmp(big.NewInt(1000000)) > 0 {
				return nil, at + 1, api.ErrTokenNumber
			}
			k.N, end = int(n.Int64()), at+1+len(digits)
		case 8:
			k.P, end, errno = elementsOf(s, at+1)
		case 1, 2, 3, 4, 5:
		default:
			if s[at] == ' ' {
				at++
				continue
			}
			return nil, at, api.ErrTokenChar
		}
		if errno != api.OK {
			return nil, end, errno
		}
		tokens, at = append(tokens, k), end
	}
	return tokens, len(s), api.OK
}

// placeOf tells by the forms where s can't go on, and why.
func placeOf(s string) (int, api.Errno) {
	_, at, errno := lexOf(s)
	return at, errno
}

// checkForms holds what Lex tells of s against what the forms tell.
func checkForms(t *testing.T, s string) {
	t.Helper()
	tokens, at, errno := lexOf(s)
	if errno != api.OK {
		checkRefused(t, s, at, errno)
		return
	}
	checkLex(t, s, tokens...)
}

// every is all texts of up to n bytes out of some.
func every(n int, some string) []string {
	all, last := []string{""}, []string{""}
	for range n {
		var longer []string
		for _, text := range last {
			for i := range len(some) {
				longer = append(longer, text+some[i:i+1])
			}
		}
		all, last = append(all, longer...), longer
	}
	return all
}

func TestLexOfAllShortTexts(t *testing.T) {
	for _, s := range every(5, `">0 a(`) {
		checkForms(t, s)
	}
	for _, s := range every(5, `ab-^]\"`) {
		checkForms(t, `"[`+s)
	}
	for _, s := range every(5, `\x0f"a`) {
		checkForms(t, `"`+s)
		checkForms(t, `"[`+s+`]"`)
	}
	for _, s := range every(4, `?]-^[a"\`+"\t") {
		checkForms(t, `"`+s)
	}
	for _, s := range every(6, "0123") {
		checkForms(t, "~"+s)
	}
	for x := range 256 {
		for y := range 256 {
			checkForms(t, string([]byte{byte(x), byte(y)}))
			checkForms(t, `"`+string([]byte{byte(x), byte(y)}))
			checkForms(t, `"[`+string([]byte{byte(x), byte(y)})+"]")
			checkForms(t, `"[`+string([]byte{byte(x), '-', byte(y)})+`]"`)
			checkForms(t, `"\x`+string([]byte{byte(x), byte(y)})+`"`)
		}
	}
}

func TestLexOfManyTexts(t *testing.T) {
	outside := []string{"(", ")", "&", "|", "!", ">", "~", `"`, " ", "  ", "0", "1", "10", "1000000", "1000001", "a", "?", "[", `\`, "\x00", "\xff", `"a"`, `"b?"`, `"[a-c]"`, `"[^\x00]"~1`, `">5"`, `""`, ">0", "~64"}
	inside := []string{`"`, "a", "b", "z", "?", "[", "]", "^", "-", `\`, `\\`, `\"`, `\]`, `\-`, `\^`, `\x`, `\x0`, `\x61`, `\xff`, `\x00`, "0", "f", "F", " ", "\t", "\x7f", "\x80", "[a]", "[a-c]", "[^a]", "[^", "a-z", `\x00-\xff`, "[^b-]", "]["}
	for seed := range 20000 {
		n := 1 + seed%12
		checkForms(t, joined(seed, n, outside))
		checkForms(t, `"`+joined(seed, n, inside))
		checkForms(t, `"a[`+joined(seed, n, inside)+`]"`)
		checkForms(t, joined(seed, n, append(inside, outside...)))
	}
	for seed := range 300 {
		checkForms(t, joined(seed, 300+seed, outside))
		checkForms(t, `"`+joined(seed, 40+seed%40, []string{"a", "?", "[ab]", "[^a-c]", `\x00`, `[\x00-a]`})+`" ~3`)
	}
}

func TestLexOfTextsThatAreSpoilt(t *testing.T) {
	for _, s := range []string{
		`("ab\x00" & !>20"?[^a-c]"~3)|`, `"a?[b-d]"~2`, `!>1000000 ("[\x00-\x1f\]x-z]" | "\\\"\?")`, `"` + strings.Repeat("a", 64) + `"`, `~0>0~10>10 "[ab][^\-]" `,
	} {
		for i := range len(s) + 1 {
			checkForms(t, s[:i])
			checkForms(t, s[i:])
			for x := range 256 {
				checkForms(t, s[:i]+string([]byte{byte(x)})+s[i:])
				if i < len(s) {
					checkForms(t, s[:i]+string([]byte{byte(x)})+s[i+1:])
				}
			}
		}
	}
}

// writtenOf tells by the definition how x is written, where those marks may not be.
func writtenOf(x int, marks string) string {
	switch {
	case x < 32 || x > 126:
		return fmt.Sprintf(`\x%02x`, x)
	case strings.Contains(marks, string(rune(x))):
		return `\` + string(rune(x))
	}
	return string(rune(x))
}

// elementOf tells by the definition the text of an element that has bytes.
func elementOf(element api.Class) string {
	var bytes, starts []int
	for x := range 256 {
		if has(element, x) {
			bytes = append(bytes, x)
			if !has(element, x-1) {
				starts = append(starts, x)
			}
		}
	}
	switch len(bytes) {
	case 256:
		return "?"
	case 1:
		return writtenOf(bytes[0], `"?[\`)
	}
	text := ""
	for _, first := range starts {
		last := first
		for has(element, last+1) {
			last++
		}
		switch first, second := writtenOf(first, `"[]-^\`), writtenOf(last, `"[]-^\`); {
		case !has(element, last-1):
			text += first
		case !has(element, last-2):
			text += first + second
		default:
			text += first + "-" + second
		}
	}
	return "[" + text + "]"
}

// classes are those of the edges, and ordinary ones, all with bytes.
func classes() []api.Class {
	all := []api.Class{full, those("abc"), those("ace"), those("acde"), those("a-z]"), those("\x00\xff"), upTo(32, 126), others("[]"), others("\x00\xff"), {1<<64 - 1}, {0, 1<<64 - 1}, {0, 0, 1<<64 - 1, 0}, {0, 0, 0, 1<<64 - 1}, {1 << 63, 1, 0, 0}, {0, 1 << 63, 1, 0}}
	for x := range 256 {
		all = append(all, alone(byte(x)), others(string([]byte{byte(x)})))
	}
	for seed := range 400 {
		var some string
		for _, x := range numbers(seed, 2+seed%40, 256) {
			some += string([]byte{byte(x)})
		}
		all = append(all, those(some), others(some), those(some[:2]))
	}
	for seed := range 100 {
		ends := numbers(seed+1000, 2, 256)
		all = append(all, upTo(min(ends[0], ends[1]), max(ends[0], ends[1])))
	}
	return all
}

func TestElementOfSamples(t *testing.T) {
	checkElement(t, full, "?")
	checkElement(t, class.Full(), "?")
	for _, c := range classes() {
		checkElement(t, c, elementOf(c))
	}
	for _, x := range []struct {
		c    api.Class
		text string
	}{
		{a, "a"}, {alone(' '), " "}, {alone('~'), "~"}, {alone('"'), `\"`}, {alone('?'), `\?`}, {alone('['), `\[`}, {alone('\\'), `\\`}, {alone(']'), "]"}, {alone('-'), "-"}, {alone('^'), "^"}, {alone(0), `\x00`}, {alone(31), `\x1f`}, {alone(127), `\x7f`}, {alone(128), `\x80`}, {alone(255), `\xff`}, {alone(0xab), `\xab`}, {alone('\n'), `\x0a`},
		{those("ab"), "[ab]"}, {those("ac"), "[ac]"}, {those("abc"), "[a-c]"}, {those("abcd"), "[a-d]"}, {those("abd"), "[abd]"}, {those("acd"), "[acd]"}, {those("zxa"), "[axz]"}, {those("abcxyz"), "[a-cx-z]"}, {those("acdefh"), "[ac-fh]"}, {those("\x00\x01"), `[\x00\x01]`}, {those("\x00\x01\x02"), `[\x00-\x02]`}, {those("\xfe\xff"), `[\xfe\xff]`}, {those("\x00\xff"), `[\x00\xff]`},
		{those("?a"), "[?a]"}, {those(`"?`), `[\"?]`}, {those(`!"`), `[!\"]`}, {those("-]"), `[\-\]]`}, {those("^_"), `[\^_]`}, {those(`[\]^`), `[\[-\^]`}, {those(`[\`), `[\[\\]`}, {those(`\]^`), `[\\-\^]`}, {those("+,-"), `[+-\-]`}, {those("-./"), `[\--/]`}, {those("()&|!>~"), "[!&()>|~]"}, {those("~\x7f"), `[~\x7f]`}, {those("~\x7f\x80"), `[~-\x80]`}, {those("\x1f "), `[\x1f ]`},
		{others("a"), "[\\x00-`b-\\xff]"}, {others("\x00"), `[\x01-\xff]`}, {others("\xff"), `[\x00-\xfe]`}, {others("\x01"), `[\x00\x02-\xff]`}, {others("\xfe"), `[\x00-\xfd\xff]`}, {others("\x02"), `[\x00\x01\x03-\xff]`}, {others("\xfd"), `[\x00-\xfc\xfe\xff]`}, {others("]"), `[\x00-\\\^-\xff]`}, {others("^"), `[\x00-\]_-\xff]`}, {others("bd"), "[\\x00-ace-\\xff]"},
	} {
		checkElement(t, x.c, x.text)
	}
	if got, is := Element(none); got != "" || is {
		t.Errorf("P13.2: Element of no bytes is %q, %v, not nothing, false", got, is)
	}
}

func TestElementOfAllPairs(t *testing.T) {
	for x := range 256 {
		for y := range x {
			checkElement(t, class.Or(alone(byte(x)), alone(byte(y))), elementOf(class.Or(alone(byte(x)), alone(byte(y)))))
			checkElement(t, upTo(y, x), elementOf(upTo(y, x)))
		}
	}
}

func TestPrintOfEachKind(t *testing.T) {
	checkPrint(t, signToken(Open, 0), "(")
	checkPrint(t, signToken(Close, 0), ")")
	checkPrint(t, signToken(And, 0), "&")
	checkPrint(t, signToken(Or, 0), "|")
	checkPrint(t, signToken(Not, 0), "!")
	for _, n := range []int{0, 1, 2, 9, 10, 64, 65, 100, 12345, 99999, 100000, 999999, 1000000} {
		checkPrint(t, counted(Shift, 0, n), ">"+fmt.Sprint(n))
		checkPrint(t, counted(Fuzz, 0, n), "~"+fmt.Sprint(n))
	}
	// A row of no elements is none.
	checkPrint(t, Token{Kind: And, P: []api.Class{}}, "&")
	checkPrint(t, Token{Kind: Fuzz, N: 3, P: []api.Class{}}, "~3")
	checkPrint(t, pattern(0, a), `"a"`)
	checkPrint(t, pattern(0, a, b, a), `"aba"`)
	checkPrint(t, pattern(0, a, full, those("bcd")), `"a?[b-d]"`)
	checkPrint(t, pattern(0, alone('"'), alone(']'), alone('?'), alone(0), those("^-")), `"\"]\?\x00[\-\^]"`)
	for _, n := range []int{1, 2, 63, 64} {
		checkPrint(t, pattern(0, times(n, a)...), `"`+strings.Repeat("a", n)+`"`)
		checkPrint(t, pattern(0, times(n, full)...), `"`+strings.Repeat("?", n)+`"`)
		// Longer than a text may be that is read: it is printed none the less.
		checkPrint(t, pattern(0, times(n, api.Class{0x5555, 0x5555, 0x5555, 0x5555})...), `"`+strings.Repeat(elementOf(api.Class{0x5555, 0x5555, 0x5555, 0x5555}), n)+`"`)
	}
	for _, c := range classes() {
		checkPrint(t, pattern(0, c), `"`+elementOf(c)+`"`)
		checkPrint(t, pattern(0, a, c, b), `"a`+elementOf(c)+`b"`)
	}
}

func TestPrintOfWhatIsNoToken(t *testing.T) {
	for _, kind := range []int{0, -1, -2, -8, 9, 10, 64, 256, 257, 1<<32 + 1, math.MinInt, math.MaxInt} {
		checkNoPrint(t, Token{Kind: kind})
		checkNoPrint(t, Token{Kind: kind, N: 1})
		checkNoPrint(t, Token{Kind: kind, P: []api.Class{a}})
	}
	wrong := []int{-1, -2, -1000000, 1000001, 1000002, 2000000, 1 << 31, 1 << 32, 1<<32 + 1, math.MinInt, math.MaxInt}
	for _, kind := range []int{Open, Close, And, Or, Not} {
		for _, n := range append([]int{1, 2, 1000000}, wrong...) {
			checkNoPrint(t, Token{Kind: kind, N: n})
		}
		for _, p := range [][]api.Class{{a}, {full}, {none}, {a, b}, times(64, a), times(65, a)} {
			checkNoPrint(t, Token{Kind: kind, P: p})
		}
	}
	for _, kind := range []int{Shift, Fuzz} {
		for _, n := range wrong {
			checkNoPrint(t, Token{Kind: kind, N: n})
		}
		for _, n := range []int{0, 1, 1000000, 1000001} {
			for _, p := range [][]api.Class{{a}, {full}, {none}, {a, b}, times(65, a)} {
				checkNoPrint(t, Token{Kind: kind, N: n, P: p})
			}
		}
	}
	for _, n := range append([]int{1, 2, 64, 1000000}, wrong...) {
		checkNoPrint(t, Token{Kind: Pattern, N: n, P: []api.Class{a}})
		checkNoPrint(t, Token{Kind: Pattern, N: n})
	}
	for _, p := range [][]api.Class{nil, {}, {none}, {none, a}, {a, none}, {a, none, full}, append(times(63, a), none), append([]api.Class{none}, times(63, a)...), times(64, none), times(65, a), times(65, full), times(66, a), times(1000, full), append(times(64, a), none)} {
		checkNoPrint(t, Token{Kind: Pattern, P: p})
	}
}

// tokens are right ones of all kinds, whose texts Lex takes.
func tokens() []Token {
	all := []Token{signToken(Open, 0), signToken(Close, 0), signToken(And, 0), signToken(Or, 0), signToken(Not, 0), pattern(0, times(64, a)...), pattern(0, times(64, full)...), pattern(0, times(64, others("a"))...), pattern(0, times(64, alone(255))...)}
	for _, n := range []int{0, 1, 9, 10, 64, 65, 1000, 999999, 1000000} {
		all = append(all, counted(Shift, 0, n), counted(Fuzz, 0, n))
	}
	some := classes()
	for i, element := range some {
		if len(elementOf(element)) < 300 {
			all = append(all, pattern(0, element), pattern(0, element, a, some[(i*7)%40], element))
		}
	}
	return all
}

func TestLexOfPrint(t *testing.T) {
	for _, k := range tokens() {
		text, is := Print(k)
		if !is || len(text) > api.MaxBytes {
			t.Fatalf("P13.3: %v has no text that is read", k)
		}
		moved := copied(k)
		moved.At = 77
		if other, _ := Print(moved); other != text {
			t.Errorf("P13.3: Print of %v hangs on its place", k)
		}
		got, n, errno := Lex(text)
		if len(got) != 1 || !same(got[0], k) || n != len(text) || errno != api.OK {
			t.Errorf("P13.3: Lex of Print of %v, %q, is %v, %d, %d", k, text, got, n, errno)
		}
	}
}

func TestLexOfPrintOfMany(t *testing.T) {
	all := tokens()
	for seed := range 2000 {
		s := strings.Repeat(" ", seed%3)
		var want []Token
		for i, which := range numbers(seed, 1+seed%20, len(all)) {
			k := copied(all[which])
			text, _ := Print(k)
			blanks := strings.Repeat(" ", min(i, 1+(seed+i)%3))
			if len(s+blanks+text) > api.MaxBytes {
				break
			}
			s += blanks
			k.At = len(s)
			s += text
			want = append(want, k)
		}
		if got, n, errno := Lex(s); !slices.EqualFunc(got, want, same) || n != len(s) || errno != api.OK {
			t.Errorf("P13.3: Lex of %q is %v, %d, %d, not %v", s, got, n, errno, want)
		}
	}
}

func TestArgumentsStayAsTheyWere(t *testing.T) {
	for _, k := range slices.Concat(tokens(), []Token{pattern(3, none, a), pattern(0, times(65, a)...), {Kind: 9, P: []api.Class{a}}, {Kind: Pattern, N: 4, P: []api.Class{b}}}) {
		// Behind the elements there is room that is not to be written into.
		row := append(slices.Clone(k.P), b, c, b)
		given := k
		given.P = row[:len(k.P)]
		Print(given)
		if !slices.Equal(row[:len(k.P)], k.P) || !slices.Equal(row[len(k.P):], []api.Class{b, c, b}) {
			t.Errorf("P13.2: Print of %v changes it", k)
		}
	}
}

func TestAnswersAreTheCallersOwn(t *testing.T) {
	s := `("ab" "?[a-c]"~1 "ab")`
	want, _, _ := lexOf(s)
	for range 3 {
		got, _, _ := Lex(s)
		if !slices.EqualFunc(got, want, same) {
			t.Fatalf("P13.1: Lex of %q hangs on what was written into an earlier answer: %v", s, got)
		}
		// To write beyond one pattern reaches no other.
		for i := range got {
			_ = append(got[i].P, c, c, c, c, c, c, c, c)
			for j := range got {
				if !same(got[j], want[j]) {
					t.Fatalf("P13.1: patterns of %q share memory", s)
				}
			}
		}
		for i := range got {
			for j := range got[i].P {
				got[i].P[j] = none
			}
			for j := i + 1; j < len(got); j++ {
				if !same(got[j], want[j]) {
					t.Fatalf("P13.1: patterns of %q share memory", s)
				}
			}
			got[i] = Token{Kind: Fuzz, N: 7}
		}
		spare := got[:cap(got)]
		for i := range spare {
			spare[i] = Token{Kind: Fuzz, N: 9}
		}
	}
}

func TestTheSameIsToldAlways(t *testing.T) {
	texts := []string{"", "(", `"a?[b-d]"~2`, `"[^\x00-\xff]"`, ">01", `"\q`, `"a" & !>3"b"`, strings.Repeat("a", 1001)}
	for range 20 {
		for _, s := range texts {
			checkForms(t, s)
		}
		for _, k := range tokens()[:60] {
			first, _ := Print(k)
			if second, is := Print(k); second != first || !is {
				t.Errorf("P13.2: Print of %v is %q and %q", k, first, second)
			}
		}
	}
}

func TestExamples(t *testing.T) {
	checkLex(t, `"a?[b-d]"~2`, pattern(0, a, full, those("bcd")), counted(Fuzz, 9, 2))
	checkRefused(t, `"[^\x00-\xff]"`, 1, api.ErrTokenClass)
	// DOC.md: example 7.
	checkLex(t, `"a" & "b" | !"c"~1`, pattern(0, a), signToken(And, 4), pattern(6, b), signToken(Or, 10), signToken(Not, 12), pattern(13, c), counted(Fuzz, 16, 1))
}
