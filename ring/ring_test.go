package ring

import "testing"

func TestBackGivesTheLastThings(t *testing.T) {
	for size := 1; size <= 9; size++ {
		r := New[int](size)
		for added := range 40 {
			for back := -2; back <= size+2; back++ {
				got, held := r.Back(back)
				if want := back >= 1 && back <= min(added, size); held != want {
					t.Fatalf("size %d, %d added, %d back: held is %v", size, added, back, held)
				}
				if want := added - back; held && got != want {
					t.Fatalf("size %d, %d added, %d back: %d, want %d", size, added, back, got, want)
				}
				if !held && got != 0 {
					t.Fatalf("size %d, %d added, %d back: %d in place of nothing", size, added, back, got)
				}
			}
			r.Add(added)
		}
	}
}

func TestRingWithoutSizeHoldsNothing(t *testing.T) {
	for _, size := range []int{0, -1} {
		r := New[byte](size)
		r.Add(7)
		if _, held := r.Back(1); held {
			t.Errorf("size %d: holds something", size)
		}
	}
}

func TestRingHoldsAnything(t *testing.T) {
	r := New[[]string](2)
	r.Add([]string{"a"})
	r.Add([]string{"b", "c"})
	r.Add(nil)
	if got, held := r.Back(2); !held || len(got) != 2 || got[1] != "c" {
		t.Errorf("2 back: %v, %v", got, held)
	}
	if got, held := r.Back(1); !held || got != nil {
		t.Errorf("1 back: %v, %v", got, held)
	}
}
