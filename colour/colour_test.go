package colour

import (
	"errors"
	"strings"
	"testing"

	"vellum/chunk"
	"vellum/fault"
	"vellum/given"
	"vellum/head"
	"vellum/source"
)

func anyType(string) bool { return true }

// atHand makes a reader whose chunk at hand has data.
func atHand(t *testing.T, data string) *chunk.Reader {
	t.Helper()
	r := chunk.New(source.OfText(given.Chunk("daTa", data)))
	if err := r.Begin(anyType); err != nil {
		t.Fatal(err)
	}
	return r
}

func isMalformed(err error) bool {
	var malformed *fault.Malformed
	return errors.As(err, &malformed)
}

// made has colours by the data of PLTE and tRNS; none, if they are empty.
func made(t *testing.T, kind head.Kind, depth int, entries, cover string) *Colours {
	t.Helper()
	c := New(head.Head{Width: 1, Height: 1, Depth: depth, Kind: kind})
	if entries != "" {
		if err := c.ReadEntries(atHand(t, entries)); err != nil {
			t.Fatal(err)
		}
	}
	if cover != "" {
		if err := c.ReadCover(atHand(t, cover)); err != nil {
			t.Fatal(err)
		}
	}
	return c
}

func TestEachSampleBecomesOneOf16Bits(t *testing.T) {
	for _, depth := range []int{1, 2, 4, 8, 16} {
		for s := range 1 << depth {
			if got, want := full(uint16(s), depth), s*65535/(1<<depth-1); int(got) != want {
				t.Fatalf("%d of %d bits: %d, want %d", s, depth, got, want)
			}
		}
	}
}

func TestPixels(t *testing.T) {
	for _, c := range []struct {
		colours *Colours
		samples []uint16
		want    Pixel
	}{
		{made(t, head.Grey, 4, "", ""), []uint16{3}, Pixel{13107, 13107, 13107, 65535}},
		{made(t, head.Grey, 4, "", "\x00\x03"), []uint16{3}, Pixel{13107, 13107, 13107, 0}},
		{made(t, head.Grey, 4, "", "\x00\x03"), []uint16{4}, Pixel{17476, 17476, 17476, 65535}},
		{made(t, head.GreyCover, 8, "", ""), []uint16{1, 2}, Pixel{257, 257, 257, 514}},
		{made(t, head.Colours, 8, "", ""), []uint16{1, 2, 3}, Pixel{257, 514, 771, 65535}},
		{made(t, head.Colours, 8, "abc", "\x00\x01\x00\x02\x00\x03"), []uint16{1, 2, 3}, Pixel{257, 514, 771, 0}},
		{made(t, head.Colours, 16, "", "\x00\x01\x00\x02\x00\x03"), []uint16{1, 2, 259}, Pixel{1, 2, 259, 65535}},
		{made(t, head.ColoursCover, 16, "abc", ""), []uint16{1, 2, 3, 4}, Pixel{1, 2, 3, 4}},
		{made(t, head.Indices, 1, "\x01\x02\x03\x04\x05\x06", "\x80"), []uint16{0}, Pixel{257, 514, 771, 32896}},
		{made(t, head.Indices, 1, "\x01\x02\x03\x04\x05\x06", "\x80"), []uint16{1}, Pixel{1028, 1285, 1542, 65535}},
	} {
		if got, err := c.colours.Pixel(c.samples); got != c.want || err != nil {
			t.Errorf("kind %d, %v: %v, %v, want %v", c.colours.head.Kind, c.samples, got, err, c.want)
		}
	}
	if got, err := made(t, head.Indices, 2, "abcabcabc", "").Pixel([]uint16{3}); !isMalformed(err) || got != (Pixel{}) {
		t.Errorf("an index without an entry: %v, %v", got, err)
	}
}

func TestWhole(t *testing.T) {
	for _, kind := range []head.Kind{head.Grey, head.Colours, head.GreyCover, head.ColoursCover} {
		if err := made(t, kind, 8, "", "").Whole(); err != nil {
			t.Errorf("kind %d: %v", kind, err)
		}
	}
	if err := made(t, head.Indices, 8, "", "").Whole(); !isMalformed(err) {
		t.Errorf("indices without entries: %v", err)
	}
	if err := made(t, head.Indices, 8, "abc", "").Whole(); err != nil {
		t.Errorf("indices with an entry: %v", err)
	}
}

// Of each kind, all counts of bytes: those are right that the document says.
func TestSizesOfEntries(t *testing.T) {
	for _, c := range []struct {
		kind        head.Kind
		depth, most int
	}{
		{head.Grey, 8, 0}, {head.GreyCover, 8, 0}, {head.Colours, 8, 768}, {head.Colours, 16, 768}, {head.ColoursCover, 8, 768},
		{head.Indices, 1, 6}, {head.Indices, 2, 12}, {head.Indices, 4, 48}, {head.Indices, 8, 768},
	} {
		for size := range 1000 {
			colours := New(head.Head{Depth: c.depth, Kind: c.kind})
			err := colours.ReadEntries(atHand(t, strings.Repeat("a", size)))
			right := size >= 3 && size <= c.most && size%3 == 0
			if right && (err != nil || len(colours.entries) != size/3) || !right && !isMalformed(err) {
				t.Errorf("kind %d, depth %d, %d bytes: %d entries, %v", c.kind, c.depth, size, len(colours.entries), err)
			}
		}
	}
}

func TestSizesOfCover(t *testing.T) {
	for _, c := range []struct {
		kind        head.Kind
		least, most int
	}{{head.Grey, 2, 2}, {head.Colours, 6, 6}, {head.Indices, 1, 5}, {head.GreyCover, 1, 0}, {head.ColoursCover, 1, 0}} {
		entries := ""
		if c.kind == head.Indices {
			entries = strings.Repeat("abc", 5)
		}
		for size := range 20 {
			colours := made(t, c.kind, 8, entries, "")
			err := colours.ReadCover(atHand(t, strings.Repeat("\x00", size)))
			right := size >= c.least && size <= c.most
			if right && err != nil || !right && !isMalformed(err) {
				t.Errorf("kind %d, %d bytes: %v", c.kind, size, err)
			}
		}
	}
}

func TestNumbersOfCover(t *testing.T) {
	for _, depth := range []int{1, 2, 4, 8, 16} {
		for _, n := range []int{0, 1, 2, 3, 4, 5, 15, 16, 17, 255, 256, 257, 32768, 65534, 65535} {
			c := New(head.Head{Depth: depth, Kind: head.Grey})
			err := c.ReadCover(atHand(t, string([]byte{byte(n >> 8), byte(n)})))
			if right := n < 1<<depth; right && err != nil || !right && !isMalformed(err) {
				t.Errorf("depth %d, the number %d: %v", depth, n, err)
			}
		}
	}
}

func TestTooManyOrInAnotherOrder(t *testing.T) {
	const six = "\x00\x01\x00\x02\x00\x03"
	for _, c := range []struct {
		name string
		err  error
	}{
		{"two PLTEs", made(t, head.Indices, 8, "abc", "").ReadEntries(atHand(t, "abc"))},
		{"two PLTEs of colours", made(t, head.Colours, 8, "abc", "").ReadEntries(atHand(t, "abc"))},
		{"two tRNS", made(t, head.Grey, 8, "", "\x00\x01").ReadCover(atHand(t, "\x00\x01"))},
		{"two tRNS of indices", made(t, head.Indices, 8, "abc", "a").ReadCover(atHand(t, "a"))},
		{"a PLTE behind a tRNS", made(t, head.Colours, 8, "", six).ReadEntries(atHand(t, "abc"))},
		{"a tRNS without entries", made(t, head.Indices, 8, "", "").ReadCover(atHand(t, "a"))},
	} {
		if !isMalformed(c.err) {
			t.Errorf("%s: %v", c.name, c.err)
		}
	}
}

// That a number is no sample may be settled by its first byte.
func TestNumbersThatAreNoSampleAreToldAtOnce(t *testing.T) {
	for _, c := range []struct {
		depth int
		data  string
	}{{1, "\x01"}, {8, "\x01"}, {8, "\xff"}, {4, "\x00\x10"}, {1, "\x00\x02"}} {
		data := chunk.New(&given.Source{Text: given.Four(2) + "daTa" + c.data, Behind: fault.Failed})
		if err := data.Begin(anyType); err != nil {
			t.Fatal(err)
		}
		if err := New(head.Head{Depth: c.depth, Kind: head.Grey}).ReadCover(data); !isMalformed(err) {
			t.Errorf("depth %d, %x: %v", c.depth, c.data, err)
		}
	}
}

// A source that fails within the data is told as such.
func TestSourceThatFails(t *testing.T) {
	for _, c := range []struct {
		kind    head.Kind
		entries string
		read    func(c *Colours, data *chunk.Reader) error
		size    int
	}{
		{head.Indices, "", (*Colours).ReadEntries, 6},
		{head.Indices, "abcdefghi", (*Colours).ReadCover, 3},
		{head.Grey, "", (*Colours).ReadCover, 2},
		{head.Colours, "", (*Colours).ReadCover, 6},
	} {
		for n := range c.size {
			text := given.Four(c.size) + "daTa" + strings.Repeat("\x00", n)
			data := chunk.New(&given.Source{Text: text, Behind: fault.Failed})
			if err := data.Begin(anyType); err != nil {
				t.Fatal(err)
			}
			if err := c.read(made(t, c.kind, 8, c.entries, ""), data); !errors.Is(err, fault.Failed) {
				t.Errorf("kind %d: it fails behind %d bytes: %v", c.kind, n, err)
			}
		}
	}
}
