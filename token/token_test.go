package token_test

import (
	"math"
	"math/big"
	"regexp"
	"slices"
	"strconv"
	"strings"
	"testing"
	"unsafe"

	"gavotte/api"
	"gavotte/token"
)

const (
	longest = "abcdefghijklmno9"
	tooLong = "abcdefghijklmno90"
	most    = "9223372036854775807"
)

// every is all marks, as the document lists them.
const every = "{ } ( ) , ; : . = < + - * / % -> <="

func name(s string, at int) token.Token { return token.Token{Kind: token.Name, S: s, At: at} }

func num(n, at int) token.Token { return token.Token{Kind: token.Int, N: n, At: at} }

func sym(s string, at int) token.Token { return token.Token{Kind: token.Sym, S: s, At: at} }

func mark(s string, at int) token.Token { return token.Token{Kind: token.Mark, S: s, At: at} }

func end(at int) token.Token { return token.Token{Kind: token.End, At: at} }

// scanned is what Scan answers.
type scanned struct {
	words []token.Token
	place int
	e     api.Errno
}

func scan(s string) scanned {
	words, place, e := token.Scan(s)
	return scanned{words, place, e}
}

func (a scanned) alike(b scanned) bool {
	return slices.Equal(a.words, b.words) && a.place == b.place && a.e == b.e
}

// short is the beginning of a text that is told.
func short(s string) string { return s[:min(len(s), 60)] }

// holds holds what a text should be scanned to against Scan and All.
func holds(t *testing.T, s string, want scanned) {
	t.Helper()
	if got := scan(s); !got.alike(want) {
		t.Errorf("Scan(%q) = %v, want %v", short(s), got, want)
	}
}

// told is what All hands out.
type told struct {
	w token.Token
	e api.Errno
}

func all(s string) []told {
	var l []told
	for w, e := range token.All(s) {
		l = append(l, told{w, e})
	}
	return l
}

// size is how many bytes a right word has.
func size(w token.Token) int {
	switch w.Kind {
	case token.Int:
		return len(strconv.Itoa(w.N))
	case token.Sym:
		return 1 + len(w.S)
	}
	return len(w.S)
}

var (
	between = regexp.MustCompile(`^(?:[ \t\n]|#[^\n]*)*`)
	first   = regexp.MustCompile(`^(?:([a-z][a-z0-9]*)|([0-9]+)|'([a-z][a-z0-9]*)|(->|<=|[{}(),;:.=<+*/%-]))`)
)

// expected scans a text apart from the program.
func expected(s string) scanned {
	if len(s) > 16384 {
		return scanned{e: 9}
	}
	var words []token.Token
	for at := len(between.FindString(s)); at < len(s); {
		w, e := expectedWord(first.FindStringSubmatch(s[at:]))
		if e != 0 {
			return scanned{nil, at, e}
		}
		w.At = at
		words = append(words, w)
		at += size(w)
		at += len(between.FindString(s[at:]))
	}
	return scanned{words: append(words, token.Token{Kind: 4, At: len(s)})}
}

// expectedWord answers the word of what was found: a name, digits, a symbol's name, a mark.
func expectedWord(found []string) (token.Token, api.Errno) {
	switch {
	case found == nil:
		return token.Token{}, 5
	case len(found[1]) > 16 || len(found[3]) > 16:
		return token.Token{}, 9
	case found[1] != "":
		return token.Token{Kind: 0, S: found[1]}, 0
	case found[3] != "":
		return token.Token{Kind: 2, S: found[3]}, 0
	case found[4] != "":
		return token.Token{Kind: 3, S: found[4]}, 0
	case found[2] != "0" && found[2][0] == '0':
		return token.Token{}, 6
	}
	n, _ := new(big.Int).SetString(found[2], 10)
	if !n.IsInt64() {
		return token.Token{}, 2
	}
	return token.Token{Kind: 1, N: int(n.Int64())}, 0
}

// dice are numbers below n that look like any, the same ones each time.
func dice(seed uint64) func(n int) int {
	return func(n int) int {
		seed = seed*6364136223846793005 + 1442695040888963407
		return int(seed>>33) % n
	}
}

// pieces are what texts are made of that are mostly right.
func pieces() []string {
	l := append(strings.Fields(every), strings.Fields(every)...)
	return append(l, "a", "z9", longest, "if", "atomic", "0", "1", "907", most, "'a", "'if", "'"+longest,
		" ", "  ", "\t", "\n", "\n\n", " \t\n", "# x 'A $\n", "#\n", "##\r\n")
}

// broken are pieces with which no word begins, or that are none.
func broken() []string {
	return []string{"'", "''", "'9", "A", "$", ">", "\r", "é", "\x00", "\xff", "_", "00", "01", most + "0", "9223372036854775808", tooLong, "'" + tooLong, "!", "\"", "&", "|"}
}

// random is a text of so many pieces, one of so many of them broken (none: 0).
func random(roll func(n int) int, length, one int) string {
	right, wrong := pieces(), broken()
	var s strings.Builder
	for range length {
		if one > 0 && roll(one) == 0 {
			s.WriteString(wrong[roll(len(wrong))])
		} else {
			s.WriteString(right[roll(len(right))])
		}
	}
	return s.String()
}

func TestExample(t *testing.T) {
	holds(t, "x<=1 #y", scanned{words: []token.Token{name("x", 0), mark("<=", 1), num(1, 3), end(7)}})
}

// 8.1

func TestKinds(t *testing.T) {
	if got := []int{token.Name, token.Int, token.Sym, token.Mark, token.End}; !slices.Equal(got, []int{0, 1, 2, 3, 4}) {
		t.Errorf("the kinds are %v", got)
	}
}

func TestScan(t *testing.T) {
	for _, c := range []struct {
		s    string
		want []token.Token
	}{
		{"", []token.Token{end(0)}},
		{" ", []token.Token{end(1)}},
		{" \t\n\n \t", []token.Token{end(6)}},
		{"#", []token.Token{end(1)}},
		{"# $ 'A 007 \x00\xff\r é", []token.Token{end(17)}},
		{"#\n#\n", []token.Token{end(4)}},
		{"a", []token.Token{name("a", 0), end(1)}},
		{"  a  ", []token.Token{name("a", 2), end(5)}},
		{"a#b\nc", []token.Token{name("a", 0), name("c", 4), end(5)}},
		{"a#b\rc\nd", []token.Token{name("a", 0), name("d", 6), end(7)}},
		{"a # b # c\n#d\n\te", []token.Token{name("a", 0), name("e", 14), end(15)}},
		{"a b", []token.Token{name("a", 0), name("b", 2), end(3)}},
		{"a\nb\tc", []token.Token{name("a", 0), name("b", 2), name("c", 4), end(5)}},
		{"z9a0", []token.Token{name("z9a0", 0), end(4)}},
		{longest, []token.Token{name(longest, 0), end(16)}},
		{"if then atomic elapsed", []token.Token{name("if", 0), name("then", 3), name("atomic", 8), name("elapsed", 15), end(22)}},
		{"0", []token.Token{num(0, 0), end(1)}},
		{"7", []token.Token{num(7, 0), end(1)}},
		{"10", []token.Token{num(10, 0), end(2)}},
		{"0 0", []token.Token{num(0, 0), num(0, 2), end(3)}},
		{"100200300", []token.Token{num(100200300, 0), end(9)}},
		{most, []token.Token{num(math.MaxInt, 0), end(19)}},
		{"-" + most, []token.Token{mark("-", 0), num(math.MaxInt, 1), end(20)}},
		{"0a", []token.Token{num(0, 0), name("a", 1), end(2)}},
		{"12ab34", []token.Token{num(12, 0), name("ab34", 2), end(6)}},
		{"1.0", []token.Token{num(1, 0), mark(".", 1), num(0, 2), end(3)}},
		{"a.0.1", []token.Token{name("a", 0), mark(".", 1), num(0, 2), mark(".", 3), num(1, 4), end(5)}},
		{"0.0", []token.Token{num(0, 0), mark(".", 1), num(0, 2), end(3)}},
		{"'a", []token.Token{sym("a", 0), end(2)}},
		{" 'a9 'b", []token.Token{sym("a9", 1), sym("b", 5), end(7)}},
		{"'a'b", []token.Token{sym("a", 0), sym("b", 2), end(4)}},
		{"a'b", []token.Token{name("a", 0), sym("b", 1), end(3)}},
		{"1'b", []token.Token{num(1, 0), sym("b", 1), end(3)}},
		{"'true", []token.Token{sym("true", 0), end(5)}},
		{"'" + longest, []token.Token{sym(longest, 0), end(17)}},
		{"a-b", []token.Token{name("a", 0), mark("-", 1), name("b", 2), end(3)}},
		{"a->b", []token.Token{name("a", 0), mark("->", 1), name("b", 3), end(4)}},
		{"--->", []token.Token{mark("-", 0), mark("-", 1), mark("->", 2), end(4)}},
		{"<<==", []token.Token{mark("<", 0), mark("<=", 1), mark("=", 3), end(4)}},
		{"=<", []token.Token{mark("=", 0), mark("<", 1), end(2)}},
		{"<-", []token.Token{mark("<", 0), mark("-", 1), end(2)}},
		{"< =", []token.Token{mark("<", 0), mark("=", 2), end(3)}},
		{"-#>\n-", []token.Token{mark("-", 0), mark("-", 4), end(5)}},
		{"if x<1 then 'a else (b, c.d)", []token.Token{name("if", 0), name("x", 3), mark("<", 4), num(1, 5), name("then", 7), sym("a", 12),
			name("else", 15), mark("(", 20), name("b", 21), mark(",", 22), name("c", 24), mark(".", 25), name("d", 26), mark(")", 27), end(28)}},
	} {
		holds(t, c.s, scanned{words: c.want})
	}
}

func TestMarks(t *testing.T) {
	for _, m := range strings.Fields(every) {
		holds(t, m, scanned{words: []token.Token{mark(m, 0), end(len(m))}})
		holds(t, "\n"+m+"a", scanned{words: []token.Token{mark(m, 1), name("a", 1+len(m)), end(len(m) + 2)}})
	}
}

func TestScanOfWrong(t *testing.T) {
	for _, c := range []struct {
		s     string
		place int
		e     api.Errno
	}{
		{">", 0, api.ErrSign},
		{"- >", 2, api.ErrSign},
		{"->>", 2, api.ErrSign},
		{"<=>", 2, api.ErrSign},
		{"A", 0, api.ErrSign},
		{"aB", 1, api.ErrSign},
		{"a_b", 1, api.ErrSign},
		{"a\r\n", 1, api.ErrSign},
		{"\v", 0, api.ErrSign},
		{" é", 1, api.ErrSign},
		{"\u00a0", 0, api.ErrSign},
		{"a\x00", 1, api.ErrSign},
		{"\xff", 0, api.ErrSign},
		{"#x\n$", 3, api.ErrSign},
		{"'", 0, api.ErrSign},
		{"a '", 2, api.ErrSign},
		{"''", 0, api.ErrSign},
		{"''a", 0, api.ErrSign},
		{"' a", 0, api.ErrSign},
		{"'\na", 0, api.ErrSign},
		{"'#\na", 0, api.ErrSign},
		{"'A", 0, api.ErrSign},
		{"'1", 0, api.ErrSign},
		{"'9" + longest, 0, api.ErrSign},
		{"1 '007", 2, api.ErrSign},
		{tooLong, 0, api.ErrLong},
		{"(" + tooLong + ")", 1, api.ErrLong},
		{"a" + strings.Repeat("0", 16), 0, api.ErrLong},
		{strings.Repeat("z", 16384), 0, api.ErrLong},
		{tooLong + "A", 0, api.ErrLong},
		{"'" + tooLong, 0, api.ErrLong},
		{"+ '" + tooLong, 2, api.ErrLong},
		{"00", 0, api.ErrWord},
		{"a 007", 2, api.ErrWord},
		{"01a", 0, api.ErrWord},
		{"0" + most, 0, api.ErrWord},
		{"09223372036854775808", 0, api.ErrWord},
		{strings.Repeat("0", 16384), 0, api.ErrWord},
		{"a.00", 2, api.ErrWord},
		{"9223372036854775808", 0, api.ErrLarge},
		{"-9223372036854775808", 1, api.ErrLarge},
		{"x=18446744073709551616", 2, api.ErrLarge},
		{"18446744073709551617", 0, api.ErrLarge},
		{strings.Repeat("9", 16384), 0, api.ErrLarge},
		{most + "0a", 0, api.ErrLarge},
		// The first of several is told.
		{"$ 00", 0, api.ErrSign},
		{"00 $", 0, api.ErrWord},
		{"9223372036854775808 " + tooLong, 0, api.ErrLarge},
		{"a b " + tooLong + " 00 '", 4, api.ErrLong},
	} {
		holds(t, c.s, scanned{place: c.place, e: c.e})
	}
}

// TestBytes: what each byte is, alone and behind a word.
func TestBytes(t *testing.T) {
	for c := range 256 {
		s := string([]byte{byte(c)})
		var want scanned
		switch {
		case strings.Contains(" \t\n#", s):
			want.words = []token.Token{end(1)}
		case 'a' <= c && c <= 'z':
			want.words = []token.Token{name(s, 0), end(1)}
		case '0' <= c && c <= '9':
			want.words = []token.Token{num(c-'0', 0), end(1)}
		case strings.Contains("{}(),;:.=<+-*/%", s):
			want.words = []token.Token{mark(s, 0), end(1)}
		default:
			want.e = api.ErrSign
		}
		holds(t, s, want)
		holds(t, "; "+s, behind("; ", []token.Token{mark(";", 0)}, want))
	}
}

// behind is what is scanned behind the beginning of a text, whose words are told.
func behind(s string, words []token.Token, rest scanned) scanned {
	if rest.e != api.OK {
		return scanned{nil, rest.place + len(s), rest.e}
	}
	for _, w := range rest.words {
		w.At += len(s)
		words = append(words, w)
	}
	return scanned{words: words}
}

func TestLongText(t *testing.T) {
	for _, s := range []string{strings.Repeat(" ", 16384), "#" + strings.Repeat("$", 16383), strings.Repeat("\n", 16384)} {
		holds(t, s, scanned{words: []token.Token{end(16384)}})
	}
	for _, c := range []string{" ", "a", "$", "#", "0", "9", "'", ";"} {
		holds(t, strings.Repeat(c, 16385), scanned{e: api.ErrLong})
		holds(t, strings.Repeat(c, 1<<20), scanned{e: api.ErrLong})
	}
	// A text that is too long is told ahead of what stands in it.
	holds(t, "$"+strings.Repeat(" ", 16384), scanned{e: api.ErrLong})
	holds(t, "a "+strings.Repeat("0", 16383), scanned{e: api.ErrLong})

	words := []token.Token{}
	for i := range 16384 {
		words = append(words, mark("-", i))
	}
	holds(t, strings.Repeat("-", 16384), scanned{words: append(words, end(16384))})
	holds(t, strings.Repeat("-", 16383)+"$", scanned{place: 16383, e: api.ErrSign})
	holds(t, strings.Repeat(" ", 16383)+"'", scanned{place: 16383, e: api.ErrSign})
}

// TestShortTexts holds all texts of up to four signs against what regular expressions tell.
func TestShortTexts(t *testing.T) {
	texts := []string{""}
	for range 4 {
		var longer []string
		for _, s := range texts {
			for _, c := range "az09'-><=#.A \n" {
				longer = append(longer, s+string(c))
			}
		}
		texts = longer
		for _, s := range texts {
			holds(t, s, expected(s))
		}
	}
}

// TestRandomTexts holds longer texts against what regular expressions tell.
func TestRandomTexts(t *testing.T) {
	for seed := range uint64(3000) {
		roll := dice(seed)
		s := random(roll, roll(60), roll(3)*30)
		holds(t, s, expected(s))
	}
}

// TestScanIsNew: what is written into an answer is not in a later one, and no word shares memory with the text.
func TestScanIsNew(t *testing.T) {
	s := "abc 'def -> 12 <= ;"
	one, _, _ := token.Scan(s)
	clear(one[:cap(one)])
	two, _, _ := token.Scan(s)
	if !slices.Equal(two, expected(s).words) {
		t.Errorf("Scan = %v behind a change of the answer ahead of it", two)
	}
	from := uintptr(unsafe.Pointer(unsafe.StringData(s)))
	for _, w := range two {
		if at := uintptr(unsafe.Pointer(unsafe.StringData(w.S))); w.S != "" && at >= from && at < from+uintptr(len(s)) {
			t.Errorf("%q is a piece of the text", w.S)
		}
	}
}

// 8.2

// TestAll: the words of Scan, or those ahead of the first error, and then the error.
func TestAll(t *testing.T) {
	for _, c := range []struct {
		s    string
		want []told
	}{
		{"", []told{{end(0), api.OK}}},
		{"#", []told{{end(1), api.OK}}},
		{"x<=1 #y", []told{{name("x", 0), api.OK}, {mark("<=", 1), api.OK}, {num(1, 3), api.OK}, {end(7), api.OK}}},
		{"$", []told{{token.Token{At: 0}, api.ErrSign}}},
		{"a 'b 3 ; $ 00", []told{{name("a", 0), api.OK}, {sym("b", 2), api.OK}, {num(3, 5), api.OK}, {mark(";", 7), api.OK}, {token.Token{At: 9}, api.ErrSign}}},
		{"a '", []told{{name("a", 0), api.OK}, {token.Token{At: 2}, api.ErrSign}}},
		{"a '9", []told{{name("a", 0), api.OK}, {token.Token{At: 2}, api.ErrSign}}},
		{"1 " + tooLong, []told{{num(1, 0), api.OK}, {token.Token{At: 2}, api.ErrLong}}},
		{"1 '" + tooLong, []told{{num(1, 0), api.OK}, {token.Token{At: 2}, api.ErrLong}}},
		{"- 00", []told{{mark("-", 0), api.OK}, {token.Token{At: 2}, api.ErrWord}}},
		{"- 9223372036854775808", []told{{mark("-", 0), api.OK}, {token.Token{At: 2}, api.ErrLarge}}},
		{"a" + strings.Repeat(" ", 16384), []told{{token.Token{At: 0}, api.ErrLong}}},
		{strings.Repeat(" ", 16384), []told{{end(16384), api.OK}}},
	} {
		if got := all(c.s); !slices.Equal(got, c.want) {
			t.Errorf("All(%q) = %v, want %v", short(c.s), got, c.want)
		}
	}
}

// ahead is what All should hand out: the words up to where Scan tells an error, and that error.
func ahead(s string) []told {
	var l []told
	whole := scan(s)
	if whole.e != api.OK {
		// The text up to the error has just the words ahead of it.
		begin := scan(s[:whole.place])
		for _, w := range begin.words[:len(begin.words)-1] {
			l = append(l, told{w, api.OK})
		}
		return append(l, told{token.Token{At: whole.place}, whole.e})
	}
	for _, w := range whole.words {
		l = append(l, told{w, api.OK})
	}
	return l
}

func TestAllIsScan(t *testing.T) {
	for seed := range uint64(1000) {
		roll := dice(seed)
		s := random(roll, roll(40), roll(3)*20)
		if got, want := all(s), ahead(s); !slices.Equal(got, want) {
			t.Errorf("All(%q) = %v, want %v", s, got, want)
		}
	}
}

// TestAllAgain: it can be gone over more than once, and left at any word.
func TestAllAgain(t *testing.T) {
	for _, s := range []string{"", "a 1 'b ->", "a 1 'b $ c", "00", "a" + strings.Repeat(" ", 16384)} {
		seq, want := token.All(s), all(s)
		for stop := range len(want) + 1 {
			var got []told
			for w, e := range seq {
				got = append(got, told{w, e})
				if len(got) > stop {
					break
				}
			}
			if !slices.Equal(got, want[:min(stop+1, len(want))]) {
				t.Errorf("All(%q) left behind %d words: %v of %v", short(s), stop+1, got, want)
			}
		}
		if got := all(s); !slices.Equal(got, want) {
			t.Errorf("All(%q) = %v, want %v", short(s), got, want)
		}
	}
}

// 8.3

// TestPlacesRise: words stand at rising places, none in another one.
func TestPlacesRise(t *testing.T) {
	for seed := range uint64(1000) {
		roll := dice(seed)
		s := random(roll, roll(60), 0)
		words, _, e := token.Scan(s)
		if e != api.OK {
			continue
		}
		for i := range len(words) - 1 {
			if words[i].At >= words[i+1].At || words[i].At+size(words[i]) > words[i+1].At {
				t.Errorf("Scan(%q): %v, then %v", s, words[i], words[i+1])
			}
		}
	}
}

// TestBetween: what stands between two words can be a blank, or a line end, or anything else that stands between words.
func TestBetween(t *testing.T) {
	for seed := range uint64(1000) {
		roll := dice(seed)
		s := random(roll, roll(60), 0)
		words, _, e := token.Scan(s)
		if e != api.OK {
			continue
		}
		for _, gap := range []string{" ", "\n", "\t", "#\n", "# ' $ 00 \xff\n", " \n\t#a\n\t"} {
			other, want := spaced(s, words, gap)
			holds(t, other, scanned{words: want})
		}
	}
}

// spaced is a text with other gaps between its words, and these words with their new places.
func spaced(s string, words []token.Token, gap string) (string, []token.Token) {
	var other strings.Builder
	var moved []token.Token
	for _, w := range words {
		from := w.At
		w.At = other.Len()
		moved = append(moved, w)
		if w.Kind != token.End {
			other.WriteString(s[from:from+size(w)] + gap)
		}
	}
	return other.String(), moved
}
