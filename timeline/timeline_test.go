package timeline

import (
	"math"
	"math/rand/v2"
	"slices"
	"testing"

	"asof/api"
)

const end = 1 << 40 // the greatest tick

// in returns the interval from one tick to another one.
func in(from, to int) api.Interval { return api.Interval{From: from, To: to} }

// list returns the intervals whose From and To follow one another.
func list(ends ...int) (l []api.Interval) {
	for i := 0; i+1 < len(ends); i += 2 {
		l = append(l, in(ends[i], ends[i+1]))
	}
	return l
}

// edges returns integers, ticks or not, around the ends of the ticks and of their type, and around powers of two.
func edges() (l []int) {
	for n := -3; n <= 3; n++ {
		l = append(l, n, end+n, -end+n, 1<<32+n)
	}
	return append(l, 5, 10, 1<<31, 1<<39, 2*end, 1<<62, -1<<62, math.MaxInt-1, math.MaxInt, math.MinInt, math.MinInt+1)
}

// pairs returns all intervals between these ends, valid or not.
func pairs(ends []int) (l []api.Interval) {
	for _, from := range ends {
		for _, to := range ends {
			l = append(l, in(from, to))
		}
	}
	return l
}

// isOrdered says whether i is valid, as the chapter says.
func isOrdered(i api.Interval) bool {
	return slices.IsSorted([]int{0, i.From, i.To, end})
}

// has says whether the tick t is in i, and i is valid.
func has(i api.Interval, t int) bool {
	return isOrdered(i) && slices.IsSorted([]int{i.From, t, i.To})
}

// hasAny says whether the tick t is in a valid interval of l.
func hasAny(l []api.Interval, t int) bool {
	return slices.ContainsFunc(l, func(i api.Interval) bool { return has(i, t) })
}

// line returns the first and the last ticks in order, and one in the middle that stands for all others.
func line() (l []int) {
	for n := range 20 {
		l = append(l, n)
	}
	l = append(l, end/2)
	for n := range 13 {
		l = append(l, end-12+n)
	}
	return l
}

// random returns a source of the same numbers in each run.
func random() *rand.Rand { return rand.New(rand.NewPCG(6, 17)) }

// randomTick returns an integer near an end of the ticks, seldom one that is not a tick.
func randomTick(r *rand.Rand, reach int) int {
	n := r.IntN(reach+2) - 1
	if r.IntN(2) == 0 {
		return end - n
	}
	return n
}

// randomLists returns lists of intervals whose ends are in the line, or no ticks.
func randomLists() (l [][]api.Interval) {
	r := random()
	for n := range 20000 {
		var next []api.Interval
		for range n % 9 {
			from := randomTick(r, 12)
			to := from + r.IntN(7) - 1
			if r.IntN(12) == 0 {
				to = randomTick(r, 12)
			}
			next = append(next, in(from, min(to, end+1)))
		}
		l = append(l, next)
	}
	return l
}

// triples returns all lists of three intervals between the first ticks, and their mirror images between the last ones.
func triples() (l [][]api.Interval) {
	small := pairs([]int{-1, 0, 1, 2, 3, 4})
	for _, a := range small {
		for _, b := range small {
			for _, c := range small {
				l = append(l, []api.Interval{a, b, c})
				l = append(l, []api.Interval{in(end-a.To, end-a.From), in(end-b.To, end-b.From), in(end-c.To, end-c.From)})
			}
		}
	}
	return l
}

// meeting is what Meet, Bounds and SessionAt return.
type meeting struct {
	i  api.Interval
	ok bool
}

// meet returns what Meet returns.
func meet(a, b api.Interval) meeting {
	i, ok := Meet(a, b)
	return meeting{i, ok}
}

// bounds returns what Bounds returns.
func bounds(w api.Window, t int) meeting {
	i, ok := Bounds(w, t)
	return meeting{i, ok}
}

// sessionAt returns what SessionAt returns.
func sessionAt(events []int, gap, t int) meeting {
	i, ok := SessionAt(events, gap, t)
	return meeting{i, ok}
}

func TestCheck(t *testing.T) {
	found := map[api.Errno]int{}
	for _, i := range pairs(edges()) {
		want := api.OK
		if !isOrdered(i) {
			want = 1
		}
		found[want]++
		if e := Check(i); e != want {
			t.Errorf("P6.1: Check of %v returns %d and not %d", i, e, want)
		}
	}
	if found[api.OK] < 50 || found[api.ErrArg] < 50 {
		t.Errorf("P6.1: few intervals are valid or not valid: %v", found)
	}
}

func TestCheckOfEdges(t *testing.T) {
	for _, x := range []struct {
		i    api.Interval
		want api.Errno
	}{
		{in(0, 0), api.OK},
		{in(0, end), api.OK},
		{in(end, end), api.OK},
		{in(3, 9), api.OK},
		{in(-1, 0), api.ErrArg},
		{in(-1, -1), api.ErrArg},
		{in(math.MinInt, math.MaxInt), api.ErrArg},
		{in(3, 2), api.ErrArg},
		{in(end, 0), api.ErrArg},
		{in(0, end+1), api.ErrArg},
		{in(end+1, end+1), api.ErrArg},
		{in(0, math.MaxInt), api.ErrArg},
		{in(0, math.MinInt), api.ErrArg},
	} {
		if e := Check(x.i); e != x.want {
			t.Errorf("P6.1: Check of %v returns %d and not %d", x.i, e, x.want)
		}
	}
}

// wantedMeet returns what the chapter says about Meet of intervals whose ends are among these numbers.
func wantedMeet(a, b api.Interval, ends []int) (m meeting) {
	for _, t := range ends {
		switch {
		case !has(a, t) || !has(b, t):
		case m.ok:
			m.i = in(min(m.i.From, t), max(m.i.To, t))
		default:
			m = meeting{in(t, t), true}
		}
	}
	return m
}

func TestMeet(t *testing.T) {
	ends := []int{math.MinInt, -end, -1, 0, 1, 2, 3, 5, 6, 1 << 32, end - 2, end - 1, end, end + 1, 1 << 62, math.MaxInt}
	met := 0
	for _, a := range pairs(ends) {
		for _, b := range pairs(ends) {
			want := wantedMeet(a, b, ends)
			if m := meet(a, b); m != want {
				t.Errorf("P6.1: Meet of %v and %v is %v and not %v", a, b, m, want)
			}
			if want.ok {
				met++
			}
		}
	}
	if met < 1000 {
		t.Errorf("P6.1: only %d intervals meet", met)
	}
}

func TestMeetOfExamples(t *testing.T) {
	for _, x := range []struct {
		a, b api.Interval
		want meeting
	}{
		{in(3, 9), in(7, 12), meeting{in(7, 9), true}},
		{in(3, 5), in(6, 8), meeting{}},
		{in(3, 6), in(6, 8), meeting{in(6, 6), true}},
		{in(3, 9), in(4, 5), meeting{in(4, 5), true}},
		{in(3, 9), in(3, 9), meeting{in(3, 9), true}},
		{in(0, end), in(end, end), meeting{in(end, end), true}},
		{in(0, 0), in(0, end), meeting{in(0, 0), true}},
		{in(0, 0), in(end, end), meeting{}},
		{in(-1, 9), in(3, 12), meeting{}},
		{in(3, 9), in(5, end+1), meeting{}},
		{in(9, 3), in(0, end), meeting{}},
		{in(0, end), in(9, 3), meeting{}},
		{in(math.MinInt, math.MaxInt), in(1, 2), meeting{}},
	} {
		if m := meet(x.a, x.b); m != x.want {
			t.Errorf("P6.1: Meet of %v and %v is %v and not %v", x.a, x.b, m, x.want)
		}
		if m := meet(x.b, x.a); m != x.want {
			t.Errorf("P6.1: Meet of %v and %v is %v and not %v", x.b, x.a, m, x.want)
		}
	}
}

// wantedUnion returns what the chapter says about Union of intervals whose ends are in the line, or no ticks.
func wantedUnion(l []api.Interval) (u []api.Interval) {
	before := false
	for _, t := range line() {
		inside := hasAny(l, t)
		switch {
		case inside && before:
			u[len(u)-1].To = t
		case inside:
			u = append(u, in(t, t))
		}
		before = inside
	}
	return u
}

func TestUnion(t *testing.T) {
	for _, l := range slices.Concat(triples(), randomLists()) {
		want := wantedUnion(l)
		if u := Union(l); !slices.Equal(u, want) {
			t.Errorf("P6.1: Union of %v is %v and not %v", l, u, want)
		}
	}
}

func TestUnionOfExamples(t *testing.T) {
	many := slices.Repeat(list(4, 6), 1000)
	steps := []api.Interval{}
	apart := []api.Interval{}
	for n := range 1000 {
		steps = append(steps, in(3*(999-n), 3*(999-n)+2))
		apart = append(apart, in(3*n, 3*n+1))
	}
	backward := slices.Clone(apart)
	slices.Reverse(backward)
	for _, x := range []struct {
		l, want []api.Interval
	}{
		{list(5, 7, 1, 2, 8, 9, 3, 1), list(1, 2, 5, 9)},
		{nil, nil},
		{[]api.Interval{}, nil},
		{list(3, 1), nil},
		{list(-1, 5, 0, end+1, math.MinInt, math.MaxInt, 7, 6, end+1, end+1, -3, -3), nil},
		{list(4, 4), list(4, 4)},
		{list(4, 4, 4, 4, 4, 4), list(4, 4)},
		{list(4, 4, 5, 5), list(4, 5)},
		{list(5, 5, 4, 4), list(4, 5)},
		{list(4, 4, 6, 6), list(4, 4, 6, 6)},
		{list(6, 6, 4, 4), list(4, 4, 6, 6)},
		{list(1, 9, 3, 5), list(1, 9)},
		{list(3, 5, 1, 9), list(1, 9)},
		{list(1, 9, 2, 3, 7, 12), list(1, 12)},
		{list(1, 9, 2, 3, 5, 6, 11, 12), list(1, 9, 11, 12)},
		{list(1, 2, 1, 9, 1, 5), list(1, 9)},
		{list(0, 0, end, end), list(0, 0, end, end)},
		{list(0, end, 5, 6, end, end), list(0, end)},
		{list(end, end, 0, end-1), list(0, end)},
		{list(end, end, 0, end-2), list(0, end-2, end, end)},
		{list(-1, 4, 5, 6, 7, end+1), list(5, 6)},
		{many, list(4, 6)},
		{steps, list(0, 2999)},
		{apart, apart},
		{backward, apart},
	} {
		if u := Union(x.l); !slices.Equal(u, x.want) {
			t.Errorf("P6.1: Union of %.60v is %.60v and not %.60v", x.l, u, x.want)
		}
	}
}

func TestTicksOfMeet(t *testing.T) {
	few := []int{-1, 0, 2, 3, 12, end - 12, end - 1, end, end + 1}
	for _, a := range pairs(few) {
		for _, b := range pairs(few) {
			i, ok := Meet(a, b)
			for _, n := range line() {
				if want := isOrdered(a) && isOrdered(b) && has(a, n) && has(b, n); want != (ok && has(i, n)) {
					t.Errorf("P6.5: Meet of %v and %v is %v, %t: the tick %d is wrong", a, b, i, ok, n)
				}
			}
		}
	}
}

func TestTicksOfUnion(t *testing.T) {
	for _, l := range randomLists() {
		u := Union(l)
		for _, n := range line() {
			if hasAny(l, n) != hasAny(u, n) {
				t.Errorf("P6.5: Union of %v is %v: the tick %d is wrong", l, u, n)
			}
		}
		for i, x := range u {
			if !isOrdered(x) || i > 0 && x.From <= u[i-1].To+1 {
				t.Errorf("P6.5: Union of %v is %v, where the interval %d is not valid or not apart", l, u, i)
			}
		}
		if again := Union(u); !slices.Equal(again, u) {
			t.Errorf("P6.5: Union of %v, a Union, is %v", u, again)
		}
	}
}

// wantedBounds returns what the chapter says about Bounds.
func wantedBounds(w api.Window, t int) meeting {
	isSize := 1 <= w.Size && w.Size <= end
	switch {
	case t < 0 || t > end:
	case w.Kind == 1 && w.Size == 0:
		return meeting{in(0, t), true}
	case w.Kind == 2 && isSize && t < w.Size:
		return meeting{in(0, t), true}
	case w.Kind == 2 && isSize:
		return meeting{in(t-(w.Size-1), t), true}
	case w.Kind == 3 && isSize:
		return meeting{in(t/w.Size*w.Size, t), true}
	}
	return meeting{}
}

// kinds returns the kinds of windows and what is none, also what becomes one when it is cut.
func kinds() (l []int) {
	for k := -3; k <= 6; k++ {
		l = append(l, k, 1<<8+k, 1<<32+k)
	}
	return append(l, math.MinInt, math.MaxInt, math.MinInt+1, math.MinInt+2)
}

// moments returns ticks and other integers, also around multiples of the size.
func moments(size int) (l []int) {
	l = edges()
	if 1 <= size && size <= end {
		for _, n := range []int{1, 2, 3, 7, end / size} {
			if n <= end/size {
				l = append(l, n*size-2, n*size-1, n*size, n*size+1)
			}
		}
	}
	return l
}

func TestBounds(t *testing.T) {
	for _, kind := range kinds() {
		for _, size := range append(edges(), 7, 100, 1<<20) {
			for _, at := range moments(size) {
				w := api.Window{Kind: kind, Size: size}
				want := wantedBounds(w, at)
				if m := bounds(w, at); m != want {
					t.Errorf("P6.2: Bounds of %v at %d is %v and not %v", w, at, m, want)
				}
			}
		}
	}
}

func TestBoundsOfExamples(t *testing.T) {
	for _, x := range []struct {
		kind, size, at int
		want           meeting
	}{
		{api.SlidingW, 10, 4, meeting{in(0, 4), true}},
		{api.SlidingW, 10, 25, meeting{in(16, 25), true}},
		{api.TumblingW, 10, 25, meeting{in(20, 25), true}},
		{api.TumblingW, 10, 30, meeting{in(30, 30), true}},
		{api.TumblingW, 10, 29, meeting{in(20, 29), true}},
		{api.AllW, 0, 0, meeting{in(0, 0), true}},
		{api.AllW, 0, end, meeting{in(0, end), true}},
		{api.AllW, 0, end + 1, meeting{}},
		{api.AllW, 0, -1, meeting{}},
		{api.AllW, 1, 5, meeting{}},
		{api.AllW, -1, 5, meeting{}},
		{api.SlidingW, 0, 5, meeting{}},
		{api.SlidingW, 1, 5, meeting{in(5, 5), true}},
		{api.SlidingW, 10, 8, meeting{in(0, 8), true}},
		{api.SlidingW, 10, 9, meeting{in(0, 9), true}},
		{api.SlidingW, 10, 10, meeting{in(1, 10), true}},
		{api.SlidingW, end, end, meeting{in(1, end), true}},
		{api.SlidingW, end, end - 1, meeting{in(0, end-1), true}},
		{api.SlidingW, end + 1, end, meeting{}},
		{api.SlidingW, math.MinInt, end, meeting{}},
		{api.SlidingW, math.MaxInt, 0, meeting{}},
		{api.SlidingW, 10, -1, meeting{}},
		{api.SlidingW, 10, math.MaxInt, meeting{}},
		{api.SlidingW, 10, math.MinInt, meeting{}},
		{api.TumblingW, 0, 5, meeting{}},
		{api.TumblingW, -1, 5, meeting{}},
		{api.TumblingW, 1, 5, meeting{in(5, 5), true}},
		{api.TumblingW, end, end - 1, meeting{in(0, end-1), true}},
		{api.TumblingW, end, end, meeting{in(end, end), true}},
		{api.TumblingW, end + 1, 5, meeting{}},
		{api.TumblingW, 10, end + 1, meeting{}},
		{api.TumblingW, 10, -10, meeting{}},
		{api.SessionW, 10, 5, meeting{}},
		{api.SessionW, 0, 5, meeting{}},
		{0, 0, 5, meeting{}},
		{0, 10, 5, meeting{}},
		{5, 10, 5, meeting{}},
		{-1, 10, 5, meeting{}},
	} {
		if m := bounds(api.Window{Kind: x.kind, Size: x.size}, x.at); m != x.want {
			t.Errorf("P6.2: Bounds of a window of the kind %d and the size %d at %d is %v and not %v", x.kind, x.size, x.at, m, x.want)
		}
	}
}

func TestTicksOfBounds(t *testing.T) {
	for size := 1; size <= 12; size++ {
		for now := range 40 {
			sliding, _ := Bounds(api.Window{Kind: api.SlidingW, Size: size}, now)
			tumbling, _ := Bounds(api.Window{Kind: api.TumblingW, Size: size}, now)
			for event := range 45 {
				if want := event <= now && event > now-size; has(sliding, event) != want {
					t.Errorf("P6.2: the sliding window of %d at %d is %v: the tick %d is wrong", size, now, sliding, event)
				}
				if want := event <= now && event >= now-now%size; has(tumbling, event) != want {
					t.Errorf("P6.2: the tumbling window of %d at %d is %v: the tick %d is wrong", size, now, tumbling, event)
				}
			}
		}
	}
}

// ticksOf returns the events that are ticks and at most last, each once, in order.
func ticksOf(events []int, last int) (l []int) {
	for _, t := range events {
		if 0 <= t && t <= end && t <= last {
			l = append(l, t)
		}
	}
	slices.Sort(l)
	return slices.Compact(l)
}

// wantedSessions returns what the chapter says about Sessions: an event begins one if none is shortly before it, and ends one if none is shortly after it.
func wantedSessions(events []int, gap int) (l []api.Interval) {
	if gap < 1 || gap > end {
		return nil
	}
	ticks := ticksOf(events, end)
	for _, e := range ticks {
		if !slices.ContainsFunc(ticks, func(f int) bool { return e-gap <= f && f < e }) {
			l = append(l, in(e, e))
		}
		if !slices.ContainsFunc(ticks, func(f int) bool { return e < f && f <= e+gap }) {
			l[len(l)-1].To = e
		}
	}
	return l
}

// wantedSessionAt returns what the chapter says about SessionAt: the longest end of the events without a greater gap.
func wantedSessionAt(events []int, gap, t int) meeting {
	ticks := ticksOf(events, t)
	if gap < 1 || gap > end || t < 0 || t > end || len(ticks) == 0 {
		return meeting{}
	}
	last := ticks[len(ticks)-1]
	if last < t-gap {
		return meeting{}
	}
	from := last
	for _, e := range slices.Backward(ticks) {
		if from-e > gap {
			break
		}
		from = e
	}
	return meeting{in(from, last), true}
}

// gaps returns gaps, valid or not.
func gaps() []int {
	return []int{math.MinInt, -end, -1, 0, 1, 2, 3, 4, 7, 12, end / 2, end - 12, end - 1, end, end + 1, 2 * end, math.MaxInt}
}

// eventLists returns lists of events in any order, also with the same event several times and with events that are not ticks.
func eventLists() (l [][]int) {
	l = append(l, nil, []int{}, []int{-1}, []int{end + 1, math.MinInt, math.MaxInt, -1}, []int{0, end}, []int{end, 0, end / 2}, line(), edges())
	for a := range 6 {
		for b := range 6 {
			l = append(l, []int{a}, []int{2 * a, 2 * b}, []int{end - a, end - 2*b})
			for c := range 6 {
				l = append(l, []int{a, 2 * b, 3 * c}, []int{4 * c, a, 2*b - 1, 9}, []int{end - 2*a, end + 1 - b, end - 3*c, 1})
			}
		}
	}
	r := random()
	for n := range 300 {
		var next []int
		for range n % 16 {
			next = append(next, randomTick(r, 5+n%40))
		}
		l = append(l, next)
	}
	return l
}

func TestSessions(t *testing.T) {
	for _, events := range eventLists() {
		for _, gap := range gaps() {
			want := wantedSessions(events, gap)
			if l := Sessions(events, gap); !slices.Equal(l, want) {
				t.Errorf("P6.3: Sessions of %v with the gap %d are %v and not %v", events, gap, l, want)
			}
		}
	}
}

func TestSessionAt(t *testing.T) {
	for _, events := range eventLists() {
		for _, gap := range gaps() {
			for _, at := range slices.Concat(line(), []int{math.MinInt, -1, end / 3, end + 1, math.MaxInt}) {
				want := wantedSessionAt(events, gap, at)
				if m := sessionAt(events, gap, at); m != want {
					t.Errorf("P6.3: SessionAt of %v with the gap %d at %d is %v and not %v", events, gap, at, m, want)
				}
			}
		}
	}
}

func TestSessionsOfExamples(t *testing.T) {
	events := []int{9, 1, 3, 20, 12}
	for _, x := range []struct {
		events []int
		gap    int
		want   []api.Interval
	}{
		{events, 3, list(1, 3, 9, 12, 20, 20)},
		{events, 2, list(1, 3, 9, 9, 12, 12, 20, 20)},
		{events, 1, list(1, 1, 3, 3, 9, 9, 12, 12, 20, 20)},
		{events, 6, list(1, 12, 20, 20)},
		{events, 7, list(1, 12, 20, 20)},
		{events, 8, list(1, 20)},
		{events, end, list(1, 20)},
		{events, 0, nil},
		{events, -1, nil},
		{events, end + 1, nil},
		{events, math.MaxInt, nil},
		{events, math.MinInt, nil},
		{nil, 3, nil},
		{[]int{}, 3, nil},
		{[]int{-1, end + 1, math.MinInt, math.MaxInt}, 3, nil},
		{[]int{-1, 2, end + 1}, 3, list(2, 2)},
		{[]int{-1, 0, 2}, 1, list(0, 0, 2, 2)},
		{[]int{0, 0, 0}, 1, list(0, 0)},
		{[]int{5, 4, 5, 4}, 1, list(4, 5)},
		{[]int{10, 14}, 4, list(10, 14)},
		{[]int{10, 15}, 4, list(10, 10, 15, 15)},
		{[]int{0, end}, end, list(0, end)},
		{[]int{end, 0}, end - 1, list(0, 0, end, end)},
		{[]int{end - 1, end + 1, end}, 1, list(end-1, end)},
	} {
		if l := Sessions(x.events, x.gap); !slices.Equal(l, x.want) {
			t.Errorf("P6.3: Sessions of %v with the gap %d are %v and not %v", x.events, x.gap, l, x.want)
		}
	}
}

func TestSessionAtOfExamples(t *testing.T) {
	events := []int{9, 1, 3, 20, 12}
	of := []int{8, 6, 2, 1} // those of DOC.md's example 5
	for _, x := range []struct {
		events  []int
		gap, at int
		want    meeting
	}{
		{events, 3, 14, meeting{in(9, 12), true}},
		{events, 3, 15, meeting{in(9, 12), true}},
		{events, 3, 16, meeting{}},
		{events, 3, 0, meeting{}},
		{events, 3, 1, meeting{in(1, 1), true}},
		{events, 3, 2, meeting{in(1, 1), true}},
		{events, 3, 3, meeting{in(1, 3), true}},
		{events, 3, 6, meeting{in(1, 3), true}},
		{events, 3, 7, meeting{}},
		{events, 3, 9, meeting{in(9, 9), true}},
		{events, 3, 20, meeting{in(20, 20), true}},
		{events, 3, 23, meeting{in(20, 20), true}},
		{events, 3, 24, meeting{}},
		{events, 3, end, meeting{}},
		{events, 0, 9, meeting{}},
		{events, -5, 9, meeting{}},
		{events, math.MinInt, 9, meeting{}},
		{events, math.MaxInt, 9, meeting{}},
		{events, end + 1, 20, meeting{}},
		{events, end, 20, meeting{in(1, 20), true}},
		{events, end, end, meeting{in(1, 20), true}},
		{events, 3, -1, meeting{}},
		{events, 3, end + 1, meeting{}},
		{events, 3, math.MinInt, meeting{}},
		{events, 3, math.MaxInt, meeting{}},
		{nil, 3, 9, meeting{}},
		{[]int{}, 3, 0, meeting{}},
		{[]int{-1}, 3, 0, meeting{}},
		{[]int{-1, 0}, 3, 0, meeting{in(0, 0), true}},
		{[]int{end + 1}, 3, end, meeting{}},
		{[]int{end, 0, end + 1}, 3, end, meeting{in(end, end), true}},
		{[]int{0}, end, end, meeting{in(0, 0), true}},
		{[]int{0}, end - 1, end, meeting{}},
		{of, 3, 5, meeting{in(1, 2), true}},
		{of, 3, 8, meeting{in(6, 8), true}},
		{of, 3, 11, meeting{in(6, 8), true}},
		{of, 3, 12, meeting{}},
	} {
		if m := sessionAt(x.events, x.gap, x.at); m != x.want {
			t.Errorf("P6.3: SessionAt of %v with the gap %d at %d is %v and not %v", x.events, x.gap, x.at, m, x.want)
		}
	}
}

func TestManySessions(t *testing.T) {
	var events []int
	var want []api.Interval
	for n := range 100000 {
		at := n * 7919 % 100000 * 10 // every multiple of 10 once, out of order
		events = append(events, at+4, at, at+2)
		want = append(want, in(10*n, 10*n+4))
	}
	if l := Sessions(events, 5); !slices.Equal(l, want) {
		t.Errorf("P6.3: %d Sessions of %d events are not those wanted", len(l), len(events))
	}
	if m := sessionAt(events, 5, 500003); m != (meeting{in(500000, 500002), true}) {
		t.Errorf("P6.3: SessionAt of %d events is %v", len(events), m)
	}
	if l := Sessions(events, 6); !slices.Equal(l, list(0, 999994)) {
		t.Errorf("P6.3: Sessions of %d events that are close to each other are %d", len(events), len(l))
	}
}

func TestEventsOfSessions(t *testing.T) {
	valid := []int{1, 2, 3, 4, 7, 12, end / 2, end}
	for _, events := range eventLists() {
		for n, gap := range valid {
			l := Sessions(events, gap)
			of := map[int]int{} // the session of each event
			for _, e := range ticksOf(events, end) {
				of[e] = slices.IndexFunc(l, func(s api.Interval) bool { return has(s, e) })
				if of[e] < 0 || hasAny(l[of[e]+1:], e) {
					t.Errorf("P6.6: the event %d of %v is not in exactly one of %v", e, events, l)
				}
			}
			for e := range of {
				for f := range of {
					if of[e] != of[f] && max(e-f, f-e) <= gap {
						t.Errorf("P6.6: the events %d and %d of %v are in different sessions with the gap %d", e, f, events, gap)
					}
				}
			}
			for _, greater := range valid[n:] {
				for _, s := range l {
					if k := Sessions(events, greater); !slices.ContainsFunc(k, func(u api.Interval) bool { return has(u, s.From) && has(u, s.To) }) {
						t.Errorf("P6.6: the session %v of %v with the gap %d is in none of %v with the gap %d", s, events, gap, k, greater)
					}
				}
			}
		}
	}
}

func TestCurrentSession(t *testing.T) {
	for _, events := range eventLists() {
		for _, gap := range gaps() {
			for _, s := range Sessions(events, gap) {
				if m := sessionAt(events, gap, s.To); m != (meeting{s, true}) {
					t.Errorf("P6.7: SessionAt of %v with the gap %d at %d is %v and not %v", events, gap, s.To, m, s)
				}
			}
			for _, at := range line() {
				m := sessionAt(events, gap, at)
				if early := sessionAt(ticksOf(events, at), gap, at); early != m {
					t.Errorf("P6.7: SessionAt of the events of %v up to %d with the gap %d is %v and not %v", events, at, gap, early, m)
				}
				more := append([]int{at + 1, at + 2, end}, events...)
				if late := sessionAt(more, gap, at); at < end && late != m {
					t.Errorf("P6.7: SessionAt of %v and later ones with the gap %d at %d is %v and not %v", events, gap, at, late, m)
				}
			}
		}
	}
}

// wantedBuckets returns what the chapter says about Buckets: each part goes on while the ticks have the same k.
func wantedBuckets(i api.Interval, size int) (l []api.Interval) {
	if !isOrdered(i) || size < 1 || size > end {
		return nil
	}
	for t := i.From; t <= i.To; {
		last := t + (size - 1 - t%size)
		l = append(l, in(t, min(last, i.To)))
		if len(l) > 4096 {
			return nil
		}
		t = last + 1
	}
	return l
}

// bucketIntervals returns intervals, valid or not, that begin and end at multiples of the size and beside them.
func bucketIntervals(size int) (l []api.Interval) {
	l = pairs([]int{math.MinInt, -1, 0, 1, 5, 4095, 4096, 4097, 1 << 39, end - 4096, end - 4095, end - 1, end, end + 1, math.MaxInt})
	if size < 1 || size > end {
		return l
	}
	var ends []int
	for _, n := range []int{1, 2, 9, end/size - 4096, end/size - 1, end / size} {
		if n > 0 && n <= end/size {
			ends = append(ends, n*size-1, n*size, n*size+1)
		}
	}
	for _, n := range []int{4094, 4095, 4096, 4097} {
		if n*size <= end {
			l = append(l, in(0, n*size-1), in(0, n*size), in(size-1, n*size), in(size-1, n*size-1))
			l = append(l, in(end-n*size, end), in(end-n*size+1, end))
		}
	}
	return append(l, pairs(ends)...)
}

// bucketSizes returns sizes, valid or not.
func bucketSizes() []int {
	return []int{math.MinInt, -end, -1, 0, 1, 2, 3, 10, 4096, 1 << 27, 1<<28 - 1, 1 << 28, 1<<28 + 1, 1 << 39, end - 1, end, end + 1, 1 << 62, math.MaxInt}
}

func TestBuckets(t *testing.T) {
	for _, size := range bucketSizes() {
		for _, i := range bucketIntervals(size) {
			want := wantedBuckets(i, size)
			if l := Buckets(i, size); !slices.Equal(l, want) {
				t.Errorf("P6.4: Buckets of %v of the size %d are %d parts %.60v and not %d parts %.60v", i, size, len(l), l, len(want), want)
			}
		}
	}
}

func TestBucketsOfExamples(t *testing.T) {
	for _, x := range []struct {
		i    api.Interval
		size int
		want []api.Interval
	}{
		{in(7, 21), 10, list(7, 9, 10, 19, 20, 21)},
		{in(10, 19), 10, list(10, 19)},
		{in(9, 20), 10, list(9, 9, 10, 19, 20, 20)},
		{in(10, 20), 10, list(10, 19, 20, 20)},
		{in(9, 19), 10, list(9, 9, 10, 19)},
		{in(12, 15), 10, list(12, 15)},
		{in(12, 12), 10, list(12, 12)},
		{in(3, 5), 1, list(3, 3, 4, 4, 5, 5)},
		{in(0, 5), end, list(0, 5)},
		{in(0, end), end, list(0, end-1, end, end)},
		{in(end-1, end), end, list(end-1, end-1, end, end)},
		{in(end, end), end, list(end, end)},
		{in(end, end), 1, list(end, end)},
		{in(end-2, end), 1 << 39, list(end-2, end-1, end, end)},
		{in(0, end), 1 << 39, list(0, 1<<39-1, 1<<39, end-1, end, end)},
		{in(0, end), end - 1, list(0, end-2, end-1, end)},
		{in(0, end), 1, nil},
		{in(0, end), end + 1, nil},
		{in(0, end), 0, nil},
		{in(0, 5), 0, nil},
		{in(0, 5), -1, nil},
		{in(0, 5), math.MinInt, nil},
		{in(0, 5), math.MaxInt, nil},
		{in(-1, 5), 10, nil},
		{in(5, 4), 10, nil},
		{in(0, end+1), end, nil},
		{in(end+1, end+1), end, nil},
		{in(math.MinInt, math.MaxInt), end, nil},
		{in(math.MinInt, math.MinInt), 1, nil},
	} {
		if l := Buckets(x.i, x.size); !slices.Equal(l, x.want) {
			t.Errorf("P6.4: Buckets of %v of the size %d are %v and not %v", x.i, x.size, l, x.want)
		}
	}
}

func TestManyBuckets(t *testing.T) {
	for _, x := range []struct {
		i    api.Interval
		size int
		want int
	}{
		{in(0, 4095), 1, 4096},
		{in(0, 4096), 1, 0},
		{in(1, 4096), 1, 4096},
		{in(end-4095, end), 1, 4096},
		{in(end-4096, end), 1, 0},
		{in(5, 40955), 10, 4096},
		{in(9, 40959), 10, 4096},
		{in(9, 40960), 10, 0},
		{in(10, 40960), 10, 4096},
		{in(0, end-1), 1 << 28, 4096},
		{in(0, end), 1 << 28, 0},
		{in(1<<28-1, end), 1 << 28, 0},
		{in(1<<28, end), 1 << 28, 4096},
		{in(0, end), 1<<28 + 1, 4096},
		{in(0, end), 1<<28 - 1, 0},
	} {
		l := Buckets(x.i, x.size)
		if len(l) != x.want {
			t.Errorf("P6.4: Buckets of %v of the size %d are %d parts and not %d", x.i, x.size, len(l), x.want)
		}
		if x.want > 0 && len(l) > 0 && (l[0].From != x.i.From || l[len(l)-1].To != x.i.To) {
			t.Errorf("P6.4: Buckets of %v of the size %d are from %v to %v", x.i, x.size, l[0], l[len(l)-1])
		}
	}
}

func TestTiling(t *testing.T) {
	for _, size := range bucketSizes() {
		for _, i := range bucketIntervals(size) {
			l := Buckets(i, size)
			next := i.From
			for _, p := range l {
				if p.From != next || !isOrdered(p) || p.From/size != p.To/size {
					t.Errorf("P6.8: of Buckets of %v of the size %d, the part %v does not begin at %d, or is in two ranges", i, size, p, next)
				}
				next = p.To + 1
			}
			if len(l) > 0 && next != i.To+1 {
				t.Errorf("P6.8: Buckets of %v of the size %d end at %d", i, size, next-1)
			}
		}
	}
}

func TestTumblingTiles(t *testing.T) {
	for _, size := range []int{1, 2, 3, 10, 100, 1 << 20, 1 << 28, 1<<39 + 1, end - 1, end} {
		w := api.Window{Kind: api.TumblingW, Size: size}
		for _, at := range []int{0, 1, 2, 3, 9, 10, 11, 4095, 1 << 20, 1<<20 + 1, end/2 - 1, end / 2, end - 2, end - 1, end} {
			m := bounds(w, at)
			for _, back := range []int{0, 1, 2, 4094, 4095, 4096, at / size} {
				from := (at/size - back) * size
				if from < 0 {
					continue
				}
				l := Buckets(in(from, at), size)
				if (len(l) == 0) != (back > 4095) {
					t.Errorf("P6.8: Buckets of %v of the size %d are %d parts", in(from, at), size, len(l))
				}
				if len(l) > 0 && m != (meeting{l[len(l)-1], true}) {
					t.Errorf("P6.8: Bounds of the tumbling window of %d at %d is %v, the last part of %v is %v", size, at, m, in(from, at), l[len(l)-1])
				}
			}
		}
	}
}

// unchanged says whether f leaves l and what its capacity has beyond l as they are, and whether its result shares no memory with them or with its next result.
func unchanged[T comparable](l []T, spare T, f func([]T) []api.Interval) bool {
	whole := append(slices.Clone(l), spare, spare, spare)
	part := whole[:len(l)]
	first := f(part)
	kept := slices.Clone(first)
	if !slices.Equal(whole, append(slices.Clone(l), spare, spare, spare)) {
		return false
	}
	for i := range whole {
		whole[i] = spare
	}
	if !slices.Equal(first, kept) {
		return false
	}
	for i := range first {
		first[i] = in(77, 78)
	}
	return slices.Equal(f(l), kept) && slices.Equal(whole, slices.Repeat([]T{spare}, len(whole)))
}

func TestPurity(t *testing.T) {
	for _, l := range append(randomLists()[:2000], list(1, 2), list(3, 4, 1, 2), list(1, 2, 4, 5)) {
		if !unchanged(l, in(1, 3), Union) {
			t.Errorf("P6.1: Union of %v changes its argument, or its result changes", l)
		}
	}
	for _, events := range append(eventLists(), []int{5}, []int{9, 1}) {
		if !unchanged(events, 4, func(l []int) []api.Interval { return Sessions(l, 3) }) {
			t.Errorf("P6.3: Sessions of %v changes its argument, or its result changes", events)
		}
		current := func(l []int) []api.Interval {
			i, _ := SessionAt(l, 3, 12)
			return []api.Interval{i}
		}
		if !unchanged(events, 4, current) {
			t.Errorf("P6.3: SessionAt of %v changes its argument, or its result changes", events)
		}
	}
	l := Buckets(in(7, 21), 10)
	l[0] = in(0, 0)
	if again := Buckets(in(7, 21), 10); !slices.Equal(again, list(7, 9, 10, 19, 20, 21)) {
		t.Errorf("P6.4: Buckets returns %v the second time", again)
	}
}

func TestSessionsStop(t *testing.T) {
	var l []api.Interval
	for s := range sessions([]int{9, 1, 3, 20, 12}, 3, end) {
		l = append(l, s)
		if len(l) == 2 {
			break
		}
	}
	if !slices.Equal(l, list(1, 3, 9, 12)) {
		t.Errorf("P6.3: the first two sessions are %v", l)
	}
}
