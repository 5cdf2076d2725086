// Package ring: the last few of a row of things.
package ring

// Ring holds the last things that were added to it, up to its size.
type Ring[T any] struct {
	size  int
	items []T
	next  int // where the next one goes
}

// New makes a ring that holds up to size things. It takes their memory as they
// come, so that a great ring for a short row costs little.
func New[T any](size int) *Ring[T] {
	return &Ring[T]{size: size}
}

// Add puts a thing into the ring; if the ring is full, the oldest one leaves it.
func (r *Ring[T]) Add(item T) {
	switch {
	case len(r.items) < r.size:
		r.items = append(r.items, item)
	case r.size < 1:
		return
	default:
		r.items[r.next] = item
	}
	r.next++
	if r.next == r.size {
		r.next = 0
	}
}

// Back is the thing that was added so far back; 1 is the last one. It answers
// false if the ring holds none there.
func (r *Ring[T]) Back(distance int) (T, bool) {
	if distance < 1 || distance > len(r.items) {
		var none T
		return none, false
	}
	at := r.next - distance
	if at < 0 {
		at += len(r.items)
	}
	return r.items[at], true
}
