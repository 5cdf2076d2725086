package sum

import (
	"hash/adler32"
	"hash/crc32"
	"math/big"
	"math/rand"
	"strings"
	"sync"
	"testing"
)

// allBytes has every value of a byte, from the lowest.
func allBytes() string {
	b := make([]byte, 256)
	for i := range b {
		b[i] = byte(i)
	}
	return string(b)
}

// randomTexts gives texts of any bytes, the same ones each time.
func randomTexts(count, longest int) []string {
	r := rand.New(rand.NewSource(4))
	texts := make([]string, count)
	for i := range texts {
		b := make([]byte, r.Intn(longest+1))
		r.Read(b)
		texts[i] = string(b)
	}
	return texts
}

// textsAround gives texts of each byte of fills, with lengths just below, at
// and just above each of lengths.
func textsAround(fills string, lengths ...int) []string {
	var texts []string
	for i := range len(fills) {
		for _, n := range lengths {
			for _, m := range []int{n - 1, n, n + 1} {
				texts = append(texts, strings.Repeat(fills[i:i+1], m))
			}
		}
	}
	return texts
}

// manyTexts gives ordinary texts, edges, and texts that are not UTF-8.
func manyTexts() []string {
	texts := []string{"", "a", "123456789", "IEND", "\x00", "\xff", "\xff\xfe\xc0\x80", "\xed\xa0\x80", "häßlich", allBytes()}
	for i := range 256 {
		texts = append(texts, string([]byte{byte(i)}))
	}
	texts = append(texts, textsAround("\x00\x01\x80\xff", 4, 8, 256, 5552, 2*5552, 65521, 65536, 100000)...)
	texts = append(texts, strings.Repeat(allBytes(), 1000), strings.Repeat("\xff", 1<<20))
	return append(texts, randomTexts(300, 400)...)
}

// crcByDivision is P3's first wording, word for word: the bits as a polynomial,
// its first 32 bits turned over, and the rest of the division.
func crcByDivision(s string) uint32 {
	n := 8*len(s) + 32
	p := new(big.Int)
	for i := range len(s) {
		for k := range 8 {
			p.SetBit(p, n-1-(8*i+k), uint(s[i]>>k&1))
		}
	}
	for k := range 32 {
		p.SetBit(p, n-1-k, p.Bit(n-1-k)^1)
	}
	divisor := new(big.Int)
	for _, power := range []int{32, 26, 23, 22, 16, 12, 11, 10, 8, 7, 5, 4, 2, 1, 0} {
		divisor.SetBit(divisor, power, 1)
	}
	for p.BitLen() > 32 {
		p.Xor(p, new(big.Int).Lsh(divisor, uint(p.BitLen()-33)))
	}
	var sum uint32
	for k := range 32 {
		sum |= uint32(p.Bit(31-k)^1) << k
	}
	return sum
}

// crcByBits is P3's second wording, word for word.
func crcByBits(s string) uint32 {
	rest := uint32(4294967295)
	for i := range len(s) {
		rest ^= uint32(s[i])
		for range 8 {
			if rest&1 == 1 {
				rest = rest>>1 ^ 3988292384
			} else {
				rest >>= 1
			}
		}
	}
	return ^rest
}

// adlerByWords is P4, word for word, with sums that nothing makes wrap round.
func adlerByWords(s string) uint32 {
	a, b := uint64(1), uint64(0)
	for i := range len(s) {
		a = (a + uint64(s[i])) % 65521
		b = (b + a) % 65521
	}
	return uint32(65536*b + a)
}

func TestCrcOfKnownTexts(t *testing.T) {
	for _, c := range []struct {
		s    string
		want uint32
	}{
		{"", 0},
		{"\x00", 0xd202ef8d},
		{"\xff", 0xff000000},
		{"a", 3904355907},
		{"IEND", 0xae426082},
		{"123456789", 3421780262},
		{strings.Repeat("\x00", 32), 0x190a55ad},
		{strings.Repeat("\xff", 32), 0xff6cab0b},
		{allBytes(), 0x29058c73},
	} {
		if got := Crc(c.s); got != c.want {
			t.Errorf("P3: Crc of %.20q (%d bytes): %d, want %d", c.s, len(c.s), got, c.want)
		}
	}
}

func TestCrcIsAsTheDocumentWordsIt(t *testing.T) {
	for _, s := range manyTexts() {
		got := Crc(s)
		if want := crcByBits(s); got != want {
			t.Errorf("P3: Crc of %.20q (%d bytes): %d, want %d by single bits", s, len(s), got, want)
		}
		if want := crc32.ChecksumIEEE([]byte(s)); got != want {
			t.Errorf("P3: Crc of %.20q (%d bytes): %d, want %d by the library", s, len(s), got, want)
		}
		if len(s) > 600 {
			continue
		}
		if want := crcByDivision(s); got != want {
			t.Errorf("P3: Crc of %.20q (%d bytes): %d, want %d by division", s, len(s), got, want)
		}
	}
}

// A check sum is there to tell faults: one that left a bit out would pass many
// of the texts above.
func TestCrcTellsEveryTurnedBit(t *testing.T) {
	s := []byte(allBytes())
	whole := Crc(string(s))
	for i := range s {
		for k := range 8 {
			s[i] ^= 1 << k
			if Crc(string(s)) == whole {
				t.Errorf("P3: Crc doesn't tell bit %d of byte %d", k, i)
			}
			s[i] ^= 1 << k
		}
	}
}

func TestAdlerOfKnownTexts(t *testing.T) {
	for _, c := range []struct {
		s    string
		want uint32
	}{
		{"", 1},
		{"\x00", 0x00010001},
		{"\xff", 0x01000100},
		{"a", 6422626},
		{"123456789", 152961502},
		{strings.Repeat("\x00", 65520), 65520<<16 | 1},
		{strings.Repeat("\x00", 65521), 1},
		{strings.Repeat("\x01", 65519), 65520<<16 | 65520},
		{strings.Repeat("\x01", 65520), 65520 << 16},
		{strings.Repeat("\xff", 100000), 0x149a302c},
	} {
		if got := Adler(c.s); got != c.want {
			t.Errorf("P4: Adler of %.20q (%d bytes): %d, want %d", c.s, len(c.s), got, c.want)
		}
	}
}

func TestAdlerIsAsTheDocumentWordsIt(t *testing.T) {
	for _, s := range manyTexts() {
		got := Adler(s)
		if want := adlerByWords(s); got != want {
			t.Errorf("P4: Adler of %.20q (%d bytes): %d, want %d", s, len(s), got, want)
		}
		if want := adler32.Checksum([]byte(s)); got != want {
			t.Errorf("P4: Adler of %.20q (%d bytes): %d, want %d by the library", s, len(s), got, want)
		}
	}
}

func TestSumsDoNotPanic(t *testing.T) {
	defer func() {
		if r := recover(); r != nil {
			t.Errorf("P1: a panic: %v", r)
		}
	}()
	for _, s := range manyTexts() {
		Crc(s)
		Adler(s)
	}
}

func TestSumsHangOnTheirArgumentAlone(t *testing.T) {
	type sums struct{ crc, adler uint32 }
	texts := manyTexts()
	first := make([]sums, len(texts))
	for i, s := range texts {
		first[i] = sums{Crc(s), Adler(s)}
	}
	for i := len(texts) - 1; i >= 0; i-- {
		if again := (sums{Crc(texts[i]), Adler(texts[i])}); again != first[i] {
			t.Errorf("P2: of %.20q (%d bytes): %v, and again: %v", texts[i], len(texts[i]), first[i], again)
		}
	}
	var workers sync.WaitGroup
	for range 4 {
		workers.Go(func() {
			for i, s := range texts {
				if again := (sums{Crc(s), Adler(s)}); again != first[i] {
					t.Errorf("P2: of %.20q (%d bytes): %v, and beside others: %v", s, len(s), first[i], again)
				}
			}
		})
	}
	workers.Wait()
}

// A piece of a longer text answers as a text of its own with the same bytes.
func TestSumsLookAtTheirTextOnly(t *testing.T) {
	for _, s := range manyTexts() {
		piece := ("\xff\x01" + s + "\x02\xff")[2 : 2+len(s)]
		if Crc(piece) != Crc(s) || Adler(piece) != Adler(s) {
			t.Errorf("P2: of %.20q (%d bytes): other sums inside a longer text", s, len(s))
		}
		if piece != s {
			t.Errorf("P2: a text of %d bytes was changed", len(s))
		}
	}
}
