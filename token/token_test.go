package token_test

import (
	"math/rand"
	"slices"
	"strings"
	"testing"
	"unicode/utf8"
	"unsafe"

	"flotsam/token"
)

// foldOf and wordsOf go the way of the words of the chapter, a character at a time.
func foldOf(s string) string {
	const great, small = "ABCDEFGHIJKLMNOPQRSTUVWXYZ", "abcdefghijklmnopqrstuvwxyz"
	out := ""
	for i := range len(s) {
		if at := strings.IndexByte(great, s[i]); at >= 0 {
			out += small[at : at+1]
		} else {
			out += s[i : i+1]
		}
	}
	return out
}

func wordsOf(s string) []string {
	const letters = "abcdefghijklmnopqrstuvwxyzABCDEFGHIJKLMNOPQRSTUVWXYZ0123456789_"
	var l []string
	word := ""
	for s != "" {
		_, width := utf8.DecodeRuneInString(s)
		if width > 1 || strings.Contains(letters, s[:1]) {
			word += s[:width]
		} else if word != "" {
			l, word = append(l, foldOf(word)), ""
		}
		s = s[width:]
	}
	if word != "" {
		l = append(l, foldOf(word))
	}
	return l
}

// pieces are what the texts of anyText are made of: letters, others, characters that are taken, wrong bytes, and pieces of characters.
func pieces() []string {
	return []string{
		"a", "z", "A", "Z", "0", "9", "_", "foo", "Bar9", " ", ",", "\x00", "-", "@", "[", "`", "{", "/", ":", "^", "\x7f",
		"\u0080", "é", "É", "\u00a0", "ß", "\u07ff", "\u0800", "語", "\u3000", "\ufffd", "\uffff", "\U00010000", "😀", "\U0010ffff",
		"\x80", "\xbf", "\xc0", "\xc3", "\xe8", "\xe8\xaa", "\xed\xa0\x80", "\xef", "\xef\xbf", "\xbd", "\xf0\x9f\x98", "\xf4\x90", "\xff",
	}
}

func anyText(r *rand.Rand) string {
	all := pieces()
	var b strings.Builder
	for range r.Intn(12) {
		b.WriteString(all[r.Intn(len(all))])
	}
	return b.String()
}

func wantWords(t *testing.T, promise string, s string, want []string) {
	t.Helper()
	if l := token.Words(s); !slices.Equal(l, want) {
		t.Errorf("%s: Words of %+q: %+q, want %+q", promise, s, l, want)
	}
}

func TestFold(t *testing.T) {
	for _, c := range []struct{ s, want string }{
		{"", ""},
		{"Foo, bar9 FOO", "foo, bar9 foo"},
		{"abcdefghijklmnopqrstuvwxyz", "abcdefghijklmnopqrstuvwxyz"},
		{"ABCDEFGHIJKLMNOPQRSTUVWXYZ", "abcdefghijklmnopqrstuvwxyz"},
		{"@AZ[`az{", "@az[`az{"},
		{"\u00c9 \u00c4 \u03a3 \u0130 \u212a \uff3a", "\u00c9 \u00c4 \u03a3 \u0130 \u212a \uff3a"},
		{"A\xffB\x80C\xc3D", "a\xffb\x80c\xc3d"},
		{"\xed\xa0\x80Q\xf4\x90", "\xed\xa0\x80q\xf4\x90"},
		{"\ufffdX\xff\ufffd", "\ufffdx\xff\ufffd"},
		{"\x00A\x00", "\x00a\x00"},
	} {
		if got := token.Fold(c.s); got != c.want {
			t.Errorf("P7.1: Fold of %+q: %+q, want %+q", c.s, got, c.want)
		}
		if got := token.Fold(c.want); got != c.want {
			t.Errorf("P7.1: Fold of %+q, that is folded: %+q", c.want, got)
		}
	}
	for c := range 256 {
		one := string([]byte{byte(c)})
		if got := token.Fold("x" + one + "Y"); got != "x"+foldOf(one)+"y" {
			t.Errorf("P7.1: Fold of the byte %x: %x", c, got)
		}
	}
}

func TestWords(t *testing.T) {
	for _, c := range []struct {
		s    string
		want []string
	}{
		{"", nil},
		{" ", nil},
		{" \t\n.,;-+\x00\x7f", nil},
		{"Foo, bar9 FOO", []string{"foo", "bar9", "foo"}},
		{"foo", []string{"foo"}},
		{"a", []string{"a"}},
		{" a", []string{"a"}},
		{"a ", []string{"a"}},
		{"  a  b  ", []string{"a", "b"}},
		{"b a b a", []string{"b", "a", "b", "a"}},
		{"_", []string{"_"}},
		{"a_b-c__9", []string{"a_b", "c__9"}},
		{"0123456789", []string{"0123456789"}},
		{"a/0:9@A[Z`z{", []string{"a", "0", "9", "a", "z", "z"}},
		{"don't", []string{"don", "t"}},
		{"\x00a\x00", []string{"a"}},
	} {
		wantWords(t, "P7.2", c.s, c.want)
	}
	for c := range 128 {
		one := string([]byte{byte(c)})
		want := []string{"x", "y"}
		if c == '_' || c >= '0' && c <= '9' || c >= 'a' && c <= 'z' || c >= 'A' && c <= 'Z' {
			want = []string{"x" + strings.ToLower(one) + "y"}
		}
		wantWords(t, "P7.2", "X"+one+"Y", want)
	}
}

func TestWordsOfManyBytes(t *testing.T) {
	for _, c := range []struct {
		s    string
		want []string
	}{
		{"É", []string{"É"}},
		{"CAFÉ café", []string{"cafÉ", "café"}},
		{"日本語 Go", []string{"日本語", "go"}},
		{"a😀B", []string{"a😀b"}},
		{"\u0080", []string{"\u0080"}},
		{"a\u00a0b\u3000c", []string{"a\u00a0b\u3000c"}},
		{"a\u2028b", []string{"a\u2028b"}},
		{"“a”", []string{"“a”"}},
		{"\uffff \U00010000 \U0010ffff", []string{"\uffff", "\U00010000", "\U0010ffff"}},
		// The replacement character itself is taken, with its three bytes.
		{"\ufffd", []string{"\ufffd"}},
		{"A\ufffdB", []string{"a\ufffdb"}},
		{"\ufffd\ufffd \ufffd", []string{"\ufffd\ufffd", "\ufffd"}},
	} {
		wantWords(t, "P7.2", c.s, c.want)
	}
	for c := rune(utf8.RuneSelf); c <= utf8.MaxRune; c++ {
		if s := string(c); utf8.ValidRune(c) && !slices.Equal(token.Words(" "+s), []string{s}) {
			t.Fatalf("P7.2: Words of the character %x: %+q", c, token.Words(" "+s))
		}
	}
}

func TestWordsOfWrongBytes(t *testing.T) {
	for _, c := range []struct {
		s    string
		want []string
	}{
		{"\xff", nil},
		{"\x80\xbf\xc0\xc1\xf5\xfe\xff", nil},
		{"A\xffB", []string{"a", "b"}},
		{"\xffa\xff", []string{"a"}},
		{"a\xff\xffb", []string{"a", "b"}},
		{"é\x80é", []string{"é", "é"}},
		// Characters that are cut off, at the end and ahead of something.
		{"a\xc3", []string{"a"}},
		{"\xc3a", []string{"a"}},
		{"\xe8\xaaa", []string{"a"}},
		{"\xe8\xaa語", []string{"語"}},
		{"b\xe8\xaa", []string{"b"}},
		{"\xf0\x9f\x98", nil},
		{"\xf0\x9f\x98_", []string{"_"}},
		{"\xef\xbf", nil},
		{"\xef", nil},
		{"\xef\ufffd\xef\xbf", []string{"\ufffd"}},
		// More bytes than are needed, halves of pairs, beyond the last one.
		{"a\xc0\x80b", []string{"a", "b"}},
		{"a\xc1\xa1b", []string{"a", "b"}},
		{"a\xe0\x80\x80b", []string{"a", "b"}},
		{"a\xf0\x80\x80\x80b", []string{"a", "b"}},
		{"a\xed\xa0\x80b", []string{"a", "b"}},
		{"a\xed\xbf\xbfb", []string{"a", "b"}},
		{"a\xf4\x90\x80\x80b", []string{"a", "b"}},
	} {
		wantWords(t, "P7.2", c.s, c.want)
	}
	for c := 128; c < 256; c++ {
		one := string([]byte{byte(c)})
		wantWords(t, "P7.2", "X"+one+"Y", []string{"x", "y"})
		wantWords(t, "P7.2", "é"+one, []string{"é"})
	}
}

// TestAllPairs has each two bytes, and each three of some, within letters: each is told as the model tells it.
func TestAllPairs(t *testing.T) {
	for i := range 1 << 16 {
		s := "x" + string([]byte{byte(i >> 8), byte(i)}) + "y"
		wantWords(t, "P7.2", s, wordsOf(s))
	}
	all := pieces()
	for _, a := range all {
		for _, b := range all {
			for _, c := range all {
				s := a + b + c
				wantWords(t, "P7.2", s, wordsOf(s))
			}
		}
	}
}

func TestHas(t *testing.T) {
	const s = "Foo, bar9 FOO \xffqu\xffux CAFÉ \ufffd"
	for _, word := range []string{"foo", "FOO", "fOo", "Bar9", "bar9", "qu", "ux", "cafÉ", "\ufffd"} {
		if !token.Has(s, word) {
			t.Errorf("P7.3: Has of %+q: false", word)
		}
	}
	for _, word := range []string{"", " ", "ba", "bar", "ar9", "fo", "oo", "foo ", " foo", "foo,", "foo, bar9", "quux", "qu\xffux", "\xff", "café", "bar99", "\x00"} {
		if token.Has(s, word) {
			t.Errorf("P7.3: Has of %+q: true", word)
		}
	}
	for _, s := range []string{"", " ", "\xff", ",;"} {
		for _, word := range []string{"", s, "a", "\xff"} {
			if token.Has(s, word) {
				t.Errorf("P7.3: Has of %+q in %+q: true", word, s)
			}
		}
	}
	if !token.Has("first second third", "first") || !token.Has("first second third", "second") || !token.Has("first second third", "third") {
		t.Error("P7.3: Has of the first, the second or the third word: false")
	}
}

func TestAnyTexts(t *testing.T) {
	r := rand.New(rand.NewSource(7))
	for range 20000 {
		s, other := anyText(r), anyText(r)
		if token.Fold(s) != foldOf(s) {
			t.Fatalf("P7.1: Fold of %+q: %+q", s, token.Fold(s))
		}
		words := wordsOf(s)
		wantWords(t, "P7.2", s, words)
		wantWords(t, "P7.4", token.Fold(s), words)
		wantWords(t, "P7.4", s+" "+other, append(slices.Clone(words), token.Words(other)...))
		for _, word := range words {
			wantWords(t, "P7.4", word, []string{word})
			if !token.Has(word, word) || !token.Has(s, word) {
				t.Fatalf("P7.4: Has of %+q in itself, or in %+q: false", word, s)
			}
		}
		for _, word := range append(pieces(), other) {
			if got := token.Has(s, word); got != slices.Contains(words, foldOf(word)) {
				t.Fatalf("P7.3: Has of %+q in %+q: %v", word, s, got)
			}
		}
	}
}

func TestLongTexts(t *testing.T) {
	const n = 300000
	long := strings.Repeat("A", n)
	wantWords(t, "P7.2", long, []string{strings.Repeat("a", n)})
	if l := token.Words(strings.Repeat("Ab ", n)); len(l) != n || l[0] != "ab" || l[n-1] != "ab" {
		t.Errorf("P7.2: Words of a long text: %d of them", len(l))
	}
	if !token.Has(strings.Repeat("x ", n)+"Last", "lasT") || token.Has(strings.Repeat("x ", n)+"Last", "las") || !token.Has(long, long) {
		t.Error("P7.3: Has of a long text")
	}
	if l := token.Words(strings.Repeat("\xff", n)); len(l) != 0 {
		t.Errorf("P7.2: Words of wrong bytes: %d of them", len(l))
	}
}

// TestNewMemory changes what was handed in: what was answered stays.
func TestNewMemory(t *testing.T) {
	b := []byte("some words that are folded already")
	s := unsafe.String(&b[0], len(b))
	folded, words := token.Fold(s), token.Words(s)
	again := token.Words(s)
	copy(b, "XXXXXXXXXXXXXXXXXXXXXXXXXXXXXXXXXX")
	if folded != "some words that are folded already" {
		t.Errorf("R5: Fold keeps what was handed in: %q", folded)
	}
	want := []string{"some", "words", "that", "are", "folded", "already"}
	if !slices.Equal(words, want) {
		t.Errorf("R5: Words keeps what was handed in: %q", words)
	}
	words[0] = "other"
	if !slices.Equal(again, want) {
		t.Errorf("R5: two answers share a list: %q", again)
	}
}
