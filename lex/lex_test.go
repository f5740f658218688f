package lex_test

import (
	"math/big"
	"math/rand"
	"regexp"
	"slices"
	"strconv"
	"strings"
	"testing"

	"horarium/api"
	"horarium/lex"
)

const (
	name   = 1
	number = 2
	sign   = 3
)

// tokensOf asks that the text is cut into just these tokens.
func tokensOf(t *testing.T, s string, want ...lex.Token) {
	t.Helper()
	got, at, err := lex.Lex(s)
	if !slices.Equal(got, want) || at != 0 || err != api.OK {
		t.Errorf("%q: %v at %d, %v; should be %v", s, got, at, err, want)
	}
}

// faultOf asks that the text has just this error, with nothing beside it but its place.
func faultOf(t *testing.T, s string, wantAt int, want api.Errno) {
	t.Helper()
	got, at, err := lex.Lex(s)
	if len(got) != 0 || at != wantAt || err != want {
		t.Errorf("%q: %v at %d, %v; should be at %d, %v", s, got, at, err, wantAt, want)
	}
}

func named(text string, at int) lex.Token {
	return lex.Token{Kind: name, Text: text, At: at}
}

func numbered(text string, n int64, at int) lex.Token {
	return lex.Token{Kind: number, Text: text, N: n, At: at}
}

func signed(text string, at int) lex.Token {
	return lex.Token{Kind: sign, Text: text, At: at}
}

// P3.1: the chapter's example, and names.
func TestNames(t *testing.T) {
	tokensOf(t, "a*^2", named("a", 0), signed("*^", 1), numbered("2", 2, 3))
	tokensOf(t, "a", named("a", 0))
	tokensOf(t, "abcdefghijklmnopqrstuvwxyz0123456789_", named("abcdefghijklmnopqrstuvwxyz0123456789_", 0))
	tokensOf(t, "a_1 z9_ a__", named("a_1", 0), named("z9_", 4), named("a__", 8))
	// The words are names too, for a text that is cut.
	tokensOf(t, "node fby", named("node", 0), named("fby", 5))
	faultOf(t, "A", 0, api.ErrSyntax)
	faultOf(t, "Z", 0, api.ErrSyntax)
	faultOf(t, "aB", 1, api.ErrSyntax)
	faultOf(t, "_a", 0, api.ErrSyntax)
	faultOf(t, "a\u00e9", 1, api.ErrSyntax)
}

// P3.1: a digit right behind a name is of it, a letter right behind a number is the next token.
func TestNamesAndNumbersSideBySide(t *testing.T) {
	tokensOf(t, "a12", named("a12", 0))
	tokensOf(t, "12a", numbered("12", 12, 0), named("a", 2))
	tokensOf(t, "12ab3 4", numbered("12", 12, 0), named("ab3", 2), numbered("4", 4, 6))
	tokensOf(t, "1fby2", numbered("1", 1, 0), named("fby2", 1))
	faultOf(t, "12_", 2, api.ErrSyntax)
	faultOf(t, "12A", 2, api.ErrSyntax)
}

// P3.1: numbers up to the greatest, and too great ones, so long that their values would go around.
func TestNumbers(t *testing.T) {
	for _, n := range []int64{0, 1, 9, 10, 999999999, 1000000000} {
		text := strconv.FormatInt(n, 10)
		tokensOf(t, text, numbered(text, n, 0))
	}
	tokensOf(t, "007", numbered("007", 7, 0))
	zeros := strings.Repeat("0", 3990)
	tokensOf(t, zeros+"1000000000", numbered(zeros+"1000000000", 1000000000, 0))
	for _, text := range []string{
		"1000000001", "1000000010", "1999999999", "2000000000", "9999999999", "10000000000", "4294967297", "18446744073709551617",
		"9223372036854775808", strings.Repeat("9", 4000), "1" + strings.Repeat("0", 3999), strings.Repeat("0", 3990) + "1000000001",
	} {
		faultOf(t, text, 0, api.ErrRange)
	}
	faultOf(t, "x 1000000001", 2, api.ErrRange)
	faultOf(t, "x\n#1000000001\n 3 1000000001 4", 17, api.ErrRange)
	// A sign ahead isn't the number's.
	tokensOf(t, "-5", signed("-", 0), numbered("5", 5, 1))
}

// P3.1: each sign, by itself and beside each other, the longer one first.
func TestSigns(t *testing.T) {
	signs := []string{"*^", "/^", "~>", "::", "==", "(", ")", "{", "}", ",", ";", "=", "+", "-", "*", "/", "%", "<", "?", ":"}
	for _, s := range signs {
		tokensOf(t, s, signed(s, 0))
		tokensOf(t, "a"+s+"1", named("a", 0), signed(s, 1), numbered("1", 1, 1+len(s)))
		for _, next := range signs {
			tokensOf(t, s+" "+next, signed(s, 0), signed(next, len(s)+1))
			// Only two alike make a longer one, and no other sign begins with the second byte of a longer one.
			if s+next != "==" && s+next != "::" && s+next != ":::" && s+next != "===" {
				tokensOf(t, s+next, signed(s, 0), signed(next, len(s)))
			}
		}
	}
	tokensOf(t, "===", signed("==", 0), signed("=", 2))
	tokensOf(t, "====", signed("==", 0), signed("==", 2))
	tokensOf(t, ":::", signed("::", 0), signed(":", 2))
	tokensOf(t, ":=", signed(":", 0), signed("=", 1))
	tokensOf(t, "=:", signed("=", 0), signed(":", 1))
	tokensOf(t, "**^", signed("*", 0), signed("*^", 1))
	tokensOf(t, "//^/", signed("/", 0), signed("/^", 1), signed("/", 3))
}

// P3.1: what begins or ends a longer sign, and is none by itself.
func TestHalfSigns(t *testing.T) {
	faultOf(t, "~", 0, api.ErrSyntax)
	faultOf(t, "a ~", 2, api.ErrSyntax)
	faultOf(t, "~ >", 0, api.ErrSyntax)
	faultOf(t, "~~>", 0, api.ErrSyntax)
	faultOf(t, "~^", 0, api.ErrSyntax)
	faultOf(t, ">", 0, api.ErrSyntax)
	faultOf(t, "~>>", 2, api.ErrSyntax)
	faultOf(t, "^", 0, api.ErrSyntax)
	faultOf(t, "* ^", 2, api.ErrSyntax)
	faultOf(t, "*\n^", 2, api.ErrSyntax)
	faultOf(t, "*^^", 2, api.ErrSyntax)
	for _, s := range []string{"=^", ":^", "+^", "<^", "-^", "%^", "?^"} {
		faultOf(t, s, 1, api.ErrSyntax)
	}
	faultOf(t, "->", 1, api.ErrSyntax)
	faultOf(t, "=>", 1, api.ErrSyntax)
	faultOf(t, "*>", 1, api.ErrSyntax)
}

// P3.1: what may stand between tokens, and nothing else.
func TestGaps(t *testing.T) {
	tokensOf(t, "")
	tokensOf(t, " \t\n")
	tokensOf(t, "#")
	tokensOf(t, "# a b ~ A")
	tokensOf(t, "#\n")
	tokensOf(t, "a#b\nc", named("a", 0), named("c", 4))
	tokensOf(t, "a # b # c\n\t\n d#", named("a", 0), named("d", 13))
	tokensOf(t, "#a\n#b\n1", numbered("1", 1, 6))
	tokensOf(t, "1 2\t3\n4", numbered("1", 1, 0), numbered("2", 2, 2), numbered("3", 3, 4), numbered("4", 4, 6))
	// A remark may have any bytes up to its end.
	tokensOf(t, "#\r\x00\xff\u00e9 \u2028 1000000001\na", named("a", strings.Index("#\r\x00\xff\u00e9 \u2028 1000000001\na", "\n")+1))
	for _, s := range []string{"\r", "\v", "\f", "\x00", "\u00a0", "\u0085", "\u2028", "\ufeff", "\xff", "\x7f"} {
		faultOf(t, s, 0, api.ErrSyntax)
		faultOf(t, "a "+s+" b", 2, api.ErrSyntax)
	}
}

// P3.1: ErrLimit at 0 is asked of the whole text, ahead of all else.
func TestTooLong(t *testing.T) {
	long := strings.Repeat("a", api.MaxText)
	tokensOf(t, long, named(long, 0))
	faultOf(t, long+"a", 0, api.ErrLimit)
	faultOf(t, long+"~", 0, api.ErrLimit)
	faultOf(t, "~"+long, 0, api.ErrLimit)
	faultOf(t, "1000000001 "+long, 0, api.ErrLimit)
	faultOf(t, strings.Repeat(" ", api.MaxText+1), 0, api.ErrLimit)
	faultOf(t, strings.Repeat(" ", 100*api.MaxText), 0, api.ErrLimit)
	// Bytes are counted, not runes.
	faultOf(t, "#"+strings.Repeat("\u00e9", api.MaxText/2), 0, api.ErrLimit)
	tokensOf(t, " #"+strings.Repeat("\u00e9", api.MaxText/2-1))
	faultOf(t, strings.Repeat(" ", api.MaxText-1)+"~", api.MaxText-1, api.ErrSyntax)
	if got, _, err := lex.Lex(strings.Repeat(";", api.MaxText)); len(got) != api.MaxText || err != api.OK {
		t.Error(len(got), err)
	}
}

// P3.1: of ErrSyntax and ErrRange the one that is met first.
func TestWhichIsFirst(t *testing.T) {
	faultOf(t, "~ 1000000001", 0, api.ErrSyntax)
	faultOf(t, "1000000001 ~", 0, api.ErrRange)
	faultOf(t, "1000000001A", 0, api.ErrRange)
	faultOf(t, "a A B", 2, api.ErrSyntax)
	faultOf(t, "7 2000000000 3000000000", 2, api.ErrRange)
	faultOf(t, "a 5 ; 1000000001 ~", 6, api.ErrRange)
	faultOf(t, "a 5 ; ^ 1000000001", 6, api.ErrSyntax)
	faultOf(t, "# 1000000001 ~\n ~", 16, api.ErrSyntax)
}

// P3.1
func TestWords(t *testing.T) {
	want := []string{"node", "budget", "input", "period", "phase", "flow", "fby", "tail", "output", "deadline"}
	got := lex.Words()
	if !slices.Equal(got, want) {
		t.Error(got)
	}
	// R5: what is answered is new memory.
	got[0] = "changed"
	if again := lex.Words(); !slices.Equal(again, want) {
		t.Error(again)
	}
	for _, w := range want {
		tokensOf(t, w, named(w, 0))
	}
}

var (
	gapPattern    = regexp.MustCompile(`^([ \t\n]|#[^\n]*)`)
	namePattern   = regexp.MustCompile(`^[a-z][a-z0-9_]*`)
	numberPattern = regexp.MustCompile(`^[0-9]+`)
	signPattern   = regexp.MustCompile(`^(\*\^|/\^|~>|::|==|[(){},;=+\-*/%<?:])`)
)

// cut cuts a text as the chapter says, by patterns.
func cut(s string) ([]lex.Token, int, api.Errno) {
	var l []lex.Token
	for at := 0; at < len(s); {
		rest := s[at:]
		found := gapPattern.FindString(rest)
		if found != "" {
			at += len(found)
			continue
		}
		token := lex.Token{At: at}
		for i, p := range []*regexp.Regexp{namePattern, numberPattern, signPattern} {
			if found := p.FindString(rest); found != "" {
				token.Kind, token.Text = i+1, found
			}
		}
		if token.Kind == 0 {
			return nil, at, api.ErrSyntax
		}
		if token.Kind == number {
			n, _ := new(big.Int).SetString(token.Text, 10)
			if n.Cmp(big.NewInt(1000000000)) > 0 {
				return nil, at, api.ErrRange
			}
			token.N = n.Int64()
		}
		l = append(l, token)
		at += len(token.Text)
	}
	return l, 0, api.OK
}

func sameAsCut(t *testing.T, s string) {
	t.Helper()
	want, wantAt, wantErr := cut(s)
	if wantErr != api.OK {
		faultOf(t, s, wantAt, wantErr)
		return
	}
	tokensOf(t, s, want...)
}

// P3.1: every text of one or two bytes, and those of three and four bytes of what matters.
func TestShortTexts(t *testing.T) {
	for a := range 256 {
		sameAsCut(t, string([]byte{byte(a)}))
		for b := range 256 {
			sameAsCut(t, string([]byte{byte(a), byte(b)}))
		}
	}
	const matters = "az09_~>^*/:=#\n (;A"
	for i := range matters {
		for j := range matters {
			for k := range matters {
				sameAsCut(t, string([]byte{matters[i], matters[j], matters[k]}))
				for l := range matters {
					sameAsCut(t, string([]byte{matters[i], matters[j], matters[k], matters[l]}))
				}
			}
		}
	}
}

// P3.1, P3.2: long texts of pieces, and what is cut of tokens' texts with blanks between.
func TestLongTexts(t *testing.T) {
	r := rand.New(rand.NewSource(3))
	pieces := []string{
		"a", "b_2", "node", "fby", "0", "12", "999999999", "1000000000", "*", "^", "*^", "/^", "~>", "::", "==", "=", ":", "(", ")", "{", "}",
		",", ";", "+", "-", "/", "%", "<", "?", " ", "\t", "\n", "# r\n", "#",
	}
	for range 20000 {
		var b strings.Builder
		for range r.Intn(30) {
			b.WriteString(pieces[r.Intn(len(pieces))])
		}
		sameAsCut(t, b.String())
		joinedAlike(t, b.String())
	}
}

// joinedAlike asks that a right text's tokens, written with blanks between, are cut into the same.
func joinedAlike(t *testing.T, s string) {
	t.Helper()
	l, _, err := lex.Lex(s)
	if err != api.OK {
		return
	}
	texts := make([]string, len(l))
	at := 0
	for i := range l {
		texts[i] = l[i].Text
		l[i].At = at
		at += len(texts[i]) + 1
	}
	tokensOf(t, strings.Join(texts, " "), l...)
}

// P3.2
func TestJoined(t *testing.T) {
	for _, s := range []string{
		"", "a*^2", "12ab", "f=3fby(y*^2~>1/2)#end\n::x", "===:::**^//^", "node n(a,b)budget 2{a?b:-1==2}", "x# y\nz", "000 1000000000",
	} {
		joinedAlike(t, s)
	}
}

// R1
func FuzzLex(f *testing.F) {
	f.Add("flow f = 3 fby n(x *^ 2, (tail y) /^ 3); # r\n~")
	f.Fuzz(func(t *testing.T, s string) {
		if len(s) <= api.MaxText {
			sameAsCut(t, s)
			return
		}
		faultOf(t, s, 0, api.ErrLimit)
	})
}
