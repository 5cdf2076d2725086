package source

import (
	"errors"
	"slices"
	"strings"
	"testing"

	"vellum/api"
	"vellum/fault"
)

// What a giver answers, told in short: the bytes it gave, or how it ended.
func told(bytes string, err error) string {
	switch {
	case err == nil:
		return bytes
	case bytes != "":
		return "bytes beside an error"
	case errors.Is(err, fault.End):
		return "END"
	case errors.Is(err, fault.Failed):
		return "FAILS"
	}
	return "another error: " + err.Error()
}

func TestScripted(t *testing.T) {
	for _, c := range []struct {
		name, text string
		script     []int
		asks       []int
		want       string // the answers, one behind the other
	}{
		{"no script", "abcdef", nil, []int{1, 2, 9, 9}, "a|bc|def|END"},
		{"an empty script", "abcdef", []int{}, []int{6, 1}, "abcdef|END"},
		{"less than is asked for", "abcdef", []int{1, 2}, []int{5, 5, 5}, "a|bc|def"},
		{"just what is asked for", "abcdef", []int{3, 3}, []int{3, 3, 3}, "abc|def|END"},
		{"more than is asked for", "abcdef", []int{9, 1 << 62, 3}, []int{1, 2, 1}, "a|bc|d"},
		{"more than is left", "abcdef", []int{5, 5}, []int{9, 9, 9}, "abcde|f|END"},
		{"nothing", "ab", []int{0, 0, 1, 0}, []int{1, 9, 9, 9, 9}, "||a||b"},
		{"it fails at once", "ab", []int{-1}, []int{1}, "FAILS"},
		{"it fails, whatever number below 0", "ab", []int{1, -1 << 63}, []int{1, 1}, "a|FAILS"},
		{"behind the script's end", "abcdef", []int{1}, []int{1, 4, 4}, "a|bcde|f"},
		{"nothing is left: it does not fail", "ab", []int{2, -1, -1}, []int{2, 1, 1}, "ab|END|END"},
		{"nothing is left: it does not give nothing", "ab", []int{2, 0, 5}, []int{2, 1, 1, 1}, "ab|END|END|END"},
		{"nothing is left from the beginning", "", []int{-1, 0, 5}, []int{1, 1, 1, 1}, "END|END|END|END"},
	} {
		from := OfScript(c.text, c.script)
		var got []string
		for _, most := range c.asks {
			got = append(got, told(from.Give(most)))
		}
		if strings.Join(got, "|") != c.want {
			t.Errorf("%s: %q, want %s", c.name, got, c.want)
		}
	}
}

func TestScriptStaysAsItIs(t *testing.T) {
	script := []int{3, 0, 9, -1, 7}
	was := slices.Clone(script)
	from := OfScript("abcdefghi", script[:3])
	for range 9 {
		from.Give(2)
	}
	if !slices.Equal(script, was) {
		t.Errorf("the script has become %v", script)
	}
}

// readAll takes single bytes up to the end of a source, or its failing.
func readAll(from Bytes) (string, error) {
	var out strings.Builder
	for {
		b, err := from.NextByte()
		if err != nil {
			return out.String(), err
		}
		out.WriteByte(b)
	}
}

// zeros is a script that gives nothing so often.
func zeros(times int) []int { return make([]int, times) }

func TestOneByOne(t *testing.T) {
	const text = "abc\x00\xff"
	for _, c := range []struct {
		name   string
		script []int
		want   string
		end    error
	}{
		{"no script", nil, text, fault.End},
		{"a short script", []int{1, 7}, text, fault.End},
		{"a long script", slices.Repeat([]int{1, 0}, 20), text, fault.End},
		{"100 times nothing at the beginning", zeros(100), text, fault.End},
		{"100 times nothing ahead of each byte", slices.Repeat(append(zeros(100), 1), 5), text, fault.End},
		{"100 times nothing, a byte of several, and 100 times nothing", slices.Concat(zeros(100), []int{9}, zeros(100)), text, fault.End},
		{"101 times nothing where nothing is left", append(slices.Repeat([]int{1}, 5), zeros(200)...), text, fault.End},
		{"it would fail where nothing is left", append(slices.Repeat([]int{1}, 5), -1), text, fault.End},
		{"101 times nothing", zeros(101), "", fault.Failed},
		{"101 times nothing in the middle", append([]int{1, 1}, zeros(101)...), "ab", fault.Failed},
		{"101 times nothing ahead of the last byte", append([]int{1, 1, 1, 1}, zeros(101)...), text[:4], fault.Failed},
		{"it fails at once", []int{-1}, "", fault.Failed},
		{"it fails behind 100 times nothing", append(zeros(100), -1), "", fault.Failed},
		{"it fails ahead of the last byte", []int{1, 1, 1, 1, -5}, text[:4], fault.Failed},
	} {
		got, err := readAll(OneByOne(OfScript(text, c.script)))
		if got != c.want || !errors.Is(err, c.end) {
			t.Errorf("%s: %q, %v, want %q and %v", c.name, got, err, c.want, c.end)
		}
	}
}

// asked is a giver that notes what it is asked for.
type asked struct {
	Giver
	most []int
}

func (a *asked) Give(most int) (string, error) {
	a.most = append(a.most, most)
	return a.Giver.Give(most)
}

// No byte is asked for ahead of need.
func TestOneByOneAsksForSingleBytes(t *testing.T) {
	giver := &asked{Giver: OfScript("abc", []int{5, 0, 0, 1})}
	from := OneByOne(giver)
	for i, want := range []int{1, 4, 5, 6} {
		from.NextByte()
		if len(giver.most) != want || slices.Max(giver.most) != 1 || slices.Min(giver.most) != 1 {
			t.Errorf("byte %d: asked for %v, want %d times 1", i, giver.most, want)
		}
	}
	silent := &asked{Giver: OfScript("abc", zeros(1000))}
	if _, err := OneByOne(silent).NextByte(); !errors.Is(err, fault.Failed) || len(silent.most) != api.MaxEmpty+1 {
		t.Errorf("%v, asked %d times", err, len(silent.most))
	}
}

// Which byte was wanted, and which answer of the script it was.
func TestWhereASourceFailedIsTold(t *testing.T) {
	_, err := readAll(OneByOne(OfScript("abc", []int{1, 0, 1, 0, -1})))
	if err.Error() != "source byte 2: answer 4: the source has failed" {
		t.Errorf("%v", err)
	}
	var silent *fault.Silent
	if errors.As(err, &silent) {
		t.Errorf("%v is told as one that was silent", err)
	}
	_, err = readAll(OneByOne(OfScript("abc", append([]int{1}, zeros(101)...))))
	if err.Error() != "source byte 1: no byte came 101 times: the source has failed" {
		t.Errorf("%v", err)
	}
	if !errors.As(err, &silent) || silent.Times != 101 || !errors.Is(err, fault.Failed) {
		t.Errorf("%v is not told as one that was silent", err)
	}
}

// A byte that must be, or must not be, is asked for through all layers.
func TestNeedAndNoMoreOfScripts(t *testing.T) {
	if _, err := Need(OneByOne(OfScript("", []int{-1}))); !isMalformed(err) {
		t.Errorf("nothing is left: %v", err)
	}
	if _, err := Need(OneByOne(OfScript("x", []int{-1}))); !errors.Is(err, fault.Failed) || isMalformed(err) {
		t.Errorf("it fails: %v", err)
	}
	if err := NoMore(OneByOne(OfScript("", []int{-1}))); err != nil {
		t.Errorf("nothing is left, and none must be: %v", err)
	}
	if err := NoMore(OneByOne(OfScript("x", append(zeros(100), 1, -1)))); !isMalformed(err) {
		t.Errorf("a byte too many: %v", err)
	}
	for _, script := range [][]int{{-1}, zeros(101)} {
		if err := NoMore(OneByOne(OfScript("x", script))); !errors.Is(err, fault.Failed) || isMalformed(err) {
			t.Errorf("it fails ahead of a byte too many: %v", err)
		}
	}
}
