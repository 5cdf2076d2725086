package source

import (
	"errors"
	"testing"

	"vellum/fault"
	"vellum/given"
)

func isMalformed(err error) bool {
	var malformed *fault.Malformed
	return errors.As(err, &malformed)
}

func TestTextGivesItsBytesAndEnds(t *testing.T) {
	text := "a\x00\xff"
	from := OfText(text)
	for i := range len(text) {
		if b, err := from.NextByte(); b != text[i] || err != nil {
			t.Errorf("byte %d: %d, %v, want %d", i, b, err, text[i])
		}
	}
	if err := OfText("x").NoMore(); !isMalformed(err) {
		t.Errorf("a byte is left: %v", err)
	}
	if err := from.NoMore(); err != nil {
		t.Errorf("no byte is left: %v", err)
	}
	for range 3 {
		if b, err := from.NextByte(); b != 0 || !errors.Is(err, fault.End) {
			t.Errorf("behind the end: %d, %v", b, err)
		}
	}
}

// An end is malformed where a byte must be, also if there is a layer around it.
func TestNeed(t *testing.T) {
	if b, err := Need(&given.Source{Text: "x"}); b != 'x' || err != nil {
		t.Errorf("%d, %v", b, err)
	}
	for _, end := range []error{fault.End, fault.At("chunk", 2, fault.End)} {
		if _, err := Need(&given.Source{Behind: end}); !isMalformed(err) {
			t.Errorf("at its end: %v", err)
		}
	}
	if _, err := Need(&given.Source{Behind: fault.Failed}); !errors.Is(err, fault.Failed) || isMalformed(err) {
		t.Errorf("a source that fails: %v", err)
	}
}

func TestNoMoreAsksOnce(t *testing.T) {
	for _, c := range []struct {
		from      given.Source
		malformed bool
		failed    bool
	}{
		{given.Source{Behind: fault.End}, false, false},
		{given.Source{Behind: fault.At("chunk", 2, fault.End)}, false, false},
		{given.Source{Text: "x", Behind: fault.End}, true, false},
		{given.Source{Text: "\x00", Behind: fault.Failed}, true, false},
		{given.Source{Behind: fault.Failed}, false, true},
	} {
		err := NoMore(&c.from)
		if isMalformed(err) != c.malformed || errors.Is(err, fault.Failed) != c.failed || (err == nil) != (!c.malformed && !c.failed) {
			t.Errorf("%q, then %v: %v", c.from.Text, c.from.Behind, err)
		}
		if c.from.Asked != 1 {
			t.Errorf("%q, then %v: asked %d times", c.from.Text, c.from.Behind, c.from.Asked)
		}
	}
}

func TestCount(t *testing.T) {
	for text, want := range map[string]int{"\x00\x00\x00\x00": 0, "\x00\x00\x00\x01": 1, "\x01\x02\x03\x04": 16909060, "\x00\xff\xff\xff": 16777215, "\x7f\xff\xff\xff": 2147483647} {
		from := &given.Source{Text: text + "more", Behind: fault.Failed}
		if got, err := Count(from); got != want || err != nil || from.Asked != 4 {
			t.Errorf("%x: %d, %v, asked %d times; want %d", text, got, err, from.Asked, want)
		}
	}
	// Its first byte settles that a number is too great.
	for _, text := range []string{"\x80", "\xff", "\x80\x00\x00\x00"} {
		from := &given.Source{Text: text, Behind: fault.Failed}
		if got, err := Count(from); got != 0 || !isMalformed(err) || from.Asked != 1 {
			t.Errorf("%x: %d, %v, asked %d times", text, got, err, from.Asked)
		}
	}
	for _, text := range []string{"", "\x7f", "\x00\x00", "\x00\x00\x00"} {
		if got, err := Count(&given.Source{Text: text, Behind: fault.End}); got != 0 || !isMalformed(err) {
			t.Errorf("%x: %d, %v", text, got, err)
		}
		if got, err := Count(&given.Source{Text: text, Behind: fault.Failed}); got != 0 || !errors.Is(err, fault.Failed) {
			t.Errorf("%x: %d, %v", text, got, err)
		}
	}
}

func TestShort(t *testing.T) {
	for text, want := range map[string]uint16{"\x00\x00": 0, "\x00\x01": 1, "\x12\x34": 0x1234, "\xff\xff": 65535} {
		for _, below := range []int{int(want) + 1, 65536} {
			from := &given.Source{Text: text + "more", Behind: fault.Failed}
			if got, err := Short(from, below); got != want || err != nil || from.Asked != 2 {
				t.Errorf("%x below %d: %d, %v, asked %d times; want %d", text, below, got, err, from.Asked, want)
			}
		}
	}
	for _, text := range []string{"", "\x7f"} {
		if got, err := Short(&given.Source{Text: text, Behind: fault.End}, 65536); got != 0 || !isMalformed(err) {
			t.Errorf("%x: %d, %v", text, got, err)
		}
		if got, err := Short(&given.Source{Text: text, Behind: fault.Failed}, 65536); got != 0 || !errors.Is(err, fault.Failed) {
			t.Errorf("%x: %d, %v", text, got, err)
		}
	}
}

// The byte that settles that a number is too great is the last one asked for.
func TestShortThatIsTooGreat(t *testing.T) {
	for _, c := range []struct {
		text         string
		below, asked int
	}{
		{"\x00\x02", 2, 2}, {"\x00\x03", 2, 2}, {"\x01", 256, 1}, {"\x01", 2, 1}, {"\xff", 256, 1},
		{"\x01\x01", 257, 2}, {"\x12\x34", 0x1234, 2}, {"\x12", 0x1200, 1}, {"\xff\xff", 65535, 2},
	} {
		from := &given.Source{Text: c.text, Behind: fault.Failed}
		if got, err := Short(from, c.below); got != 0 || !isMalformed(err) || from.Asked != c.asked {
			t.Errorf("%x below %d: %d, %v, asked %d times; want %d", c.text, c.below, got, err, from.Asked, c.asked)
		}
	}
}

// The first byte that is another one settles it.
func TestExpect(t *testing.T) {
	from := &given.Source{Text: "abcd", Behind: fault.Failed}
	if err := Expect(from, "abc", "why"); err != nil || from.Asked != 3 {
		t.Errorf("%v, asked %d times", err, from.Asked)
	}
	for i := range 3 {
		text := []byte("abc")
		text[i]++
		from := &given.Source{Text: string(text[:i+1]), Behind: fault.Failed}
		if err := Expect(from, "abc", "why"); !isMalformed(err) || err.Error() != "malformed: why" {
			t.Errorf("%q: %v", text, err)
		}
		from = &given.Source{Text: "abc"[:i], Behind: fault.Failed}
		if err := Expect(from, "abc", "why"); !errors.Is(err, fault.Failed) {
			t.Errorf("it fails behind %d bytes: %v", i, err)
		}
	}
}
