package master_test

import (
	"runtime"
	"slices"
	"testing"

	"bascule/api"
	"bascule/master"
)

// roomy answers a list with room behind it, and what all of that was.
func roomy[T any](list []T, room T) ([]T, []T) {
	l := append(slices.Clone(list), slices.Repeat([]T{room}, 300)...)
	return l[:len(list)], slices.Clone(l)
}

// turnAll turns all values of lists, and those in their room.
func turnAll(lists ...[]int) {
	for _, l := range lists {
		l = l[:cap(l)]
		for k := range l {
			l[k] = ^l[k]
		}
	}
}

// holdApart holds that no list comes into another one, by its room neither: each is turned in its turn, and put behind, and the others stay.
func holdApart(t *testing.T, lists ...[]int) {
	t.Helper()
	for k, one := range lists {
		var were [][]int
		for _, other := range lists {
			were = append(were, slices.Clone(other[:cap(other)]))
		}
		turnAll(one)
		_ = append(one, 1, 2, 3, 4, 5, 6, 7, 8, 9)
		for j, other := range lists {
			if j != k && !slices.Equal(other[:cap(other)], were[j]) {
				t.Fatalf("the lists %d and %d share memory", k, j)
			}
		}
	}
}

// made answers a new master.
func made(t *testing.T, wait, again, rest int) *master.Master {
	t.Helper()
	m, e := master.New(wait, again, rest)
	if m == nil || e != api.OK {
		t.Fatalf("New: %d", e)
	}
	return m
}

// sends steps, and answers the request that is sent.
func sends(t *testing.T, m *master.Master, now int) api.Request {
	t.Helper()
	s, _, e := m.Step(now)
	if len(s) != 1 || e != api.OK {
		t.Fatalf("Step(%d): %v, %d", now, s, e)
	}
	return s[0].Req
}

// R2: the Values of a request that is asked, and their room, are not written into, by this call nor by later ones.
func TestAskLeavesItsValues(t *testing.T) {
	for _, r := range append(all(), none()...) {
		values, was := roomy(r.Values, 12345)
		r.Values = values
		m := made(t, 1, 1, 1)
		m.Ask(300, r)
		_, e := m.Ask(3, r)
		for now := range 5 {
			m.Step(now)
		}
		if e == api.OK {
			m.Ask(3, r)
			m.Step(9)
			_, b := answerTo(t, r)
			m.Came(9, 3, b)
		}
		if !slices.Equal(values[:len(was)], was) {
			t.Fatalf("the Values of function %d were written into", r.Func)
		}
	}
}

// R2: the Values of a request are not kept: what becomes of them turns neither what is sent, at first and again, nor what is an answer.
func TestAskKeepsNothing(t *testing.T) {
	for _, r := range all() {
		asked := r
		asked.Values = slices.Clone(r.Values)
		m := made(t, 1, 2, 0)
		if n, e := m.Ask(3, asked); n != 1 || e != api.OK {
			t.Fatalf("Ask: %d, %d", n, e)
		}
		for now := range 3 {
			turnAll(asked.Values)
			if got := sends(t, m, now); !sameRequest(got, r) {
				t.Fatalf("%+v is sent as %+v", r, got)
			}
		}
		turnAll(asked.Values)
		_, b := answerTo(t, r)
		turnAll(asked.Values)
		if done, e := m.Came(3, 3, b); len(done) != 1 || e != api.OK {
			t.Fatalf("%+v: %v, %d", r, done, e)
		}
	}
}

// R2: one list of Values that is used for ask after ask, as a caller may, is sent as it was at each of them.
func TestOneListForAllAsks(t *testing.T) {
	m := made(t, 10, 0, 0)
	values := make([]int, 1, 50)
	for n := range 64 {
		values[0] = n
		m.Ask(3, api.Request{Func: 6, Addr: 1, Values: values})
	}
	values[0] = 999
	for n := range 64 {
		got := sends(t, m, n)
		if !slices.Equal(got.Values, []int{n}) {
			t.Fatalf("sent %v, not %d", got.Values, n)
		}
		if done, e := m.Came(n, 3, []byte{6, 0, 1, 0, byte(n)}); len(done) != 1 || e != api.OK {
			t.Fatalf("%v, %d", done, e)
		}
	}
}

// R2: what is sent is the caller's own: what is written into it, or into the list that holds it, turns neither what is sent again, nor what is an answer.
func TestSentIsTheCallersOwn(t *testing.T) {
	for _, r := range all() {
		_, b := answerTo(t, r)
		m := made(t, 1, 16, 0)
		m.Ask(3, r)
		var lists [][]int
		for now := range 17 {
			s, _, e := m.Step(now)
			if len(s) != 1 || e != api.OK || !sameSend(s[0], api.Send{Ticket: 1, Unit: 3, Req: r}) {
				t.Fatalf("%+v is sent as %+v, %d", r, s, e)
			}
			lists = append(lists, s[0].Req.Values)
			turnAll(s[0].Req.Values)
			_ = append(s[0].Req.Values, 1, 2, 3)
			clear(s[:cap(s)])
		}
		holdApart(t, append(lists, r.Values)...)
		if done, e := m.Came(17, 3, b); len(done) != 1 || e != api.OK {
			t.Fatalf("%+v: %v, %d", r, done, e)
		}
	}
}

// R2: what is sent stays as it was told, whatever is called behind it.
func TestSentStays(t *testing.T) {
	m := made(t, 1, 0, 0)
	var told []api.Send
	for k := range 40 {
		m.Ask(3, api.Request{Func: 16, Count: 2, Values: []int{k, 1000 + k}})
		s, _, _ := m.Step(k)
		told = append(told, s...)
	}
	for k, s := range told {
		if s.Ticket != k+1 || !slices.Equal(s.Req.Values, []int{k, 1000 + k}) {
			t.Fatalf("%+v at %d", s, k)
		}
	}
	if len(told) != 40 {
		t.Fatalf("%d were sent", len(told))
	}
}

// R2: bytes that come, and their room, are not written into and not kept, whether they are an answer or not.
func TestCameLeavesItsBytes(t *testing.T) {
	for _, r := range all() {
		m := made(t, 10, 0, 0)
		m.Ask(3, r)
		m.Step(0)
		a, whole := answerTo(t, r)
		for _, unit := range []int{4, 3} {
			for n := range len(whole) + 1 {
				b, was := roomy(whole[:n], 0xa5)
				done, _ := m.Came(1, unit, b)
				if !slices.Equal(b[:len(was)], was) {
					t.Fatalf("%x was written into", was[:n])
				}
				clear(b[:cap(b)])
				if (len(done) == 1) != (unit == 3 && n == len(whole)) {
					t.Fatalf("%d of %d bytes: %v", n, len(whole), done)
				}
				if len(done) == 1 && !slices.Equal(done[0].Ans.Values, a.Values) {
					t.Fatalf("%+v: its answer was kept in the bytes: %v", r, done)
				}
			}
		}
	}
}

// R2: answers are the caller's own, and stay as they were told.
func TestDoneIsTheCallersOwn(t *testing.T) {
	m := made(t, 10, 0, 0)
	var lists [][]int
	for k := range 20 {
		m.Ask(3, api.Request{Func: 23, Count: 2, Values: []int{k}})
		lists = append(lists, sends(t, m, k).Values)
		done, e := m.Came(k, 3, []byte{23, 4, 1, byte(k), 2, byte(k)})
		if len(done) != 1 || e != api.OK || done[0].Ticket != k+1 {
			t.Fatalf("%v, %d", done, e)
		}
		lists = append(lists, done[0].Ans.Values)
		clear(done[:cap(done)])
	}
	for k, l := range lists {
		want := []int{k / 2}
		if k%2 == 1 {
			want = []int{256 + k/2, 512 + k/2}
		}
		if !slices.Equal(l, want) {
			t.Fatalf("%v, not %v", l, want)
		}
	}
	holdApart(t, lists...)
}

// R2: the lists of late ones are the caller's own, too.
func TestLateIsTheCallersOwn(t *testing.T) {
	m := made(t, 1, 0, 0)
	var told [][]api.Done
	for k := range 20 {
		m.Ask(3, read)
		s, done, e := m.Step(k)
		if e != api.OK || len(s) != 1 || k > 0 && len(done) != 1 {
			t.Fatalf("Step(%d): %v, %v, %d", k, s, done, e)
		}
		clear(s[:cap(s)])
		told = append(told, done)
		if k%2 == 0 {
			clear(done[:cap(done)])
		}
	}
	for k, done := range told {
		if k%2 == 1 && !sameDone(done[0], api.Done{Ticket: k, Late: true}) {
			t.Fatalf("%v, not %d", done, k)
		}
	}
}

// A master keeps what waits and what is out, and does not hold on to what is done.
func TestKeepsWhatIsNotDone(t *testing.T) {
	held := func() int {
		var m runtime.MemStats
		runtime.GC()
		runtime.ReadMemStats(&m)
		return int(m.HeapAlloc)
	}
	r := api.Request{Func: 15, Count: 1968, Values: many(1968, 1)}
	before := held()
	var masters []*master.Master
	for k := range 200 {
		m := made(t, 1, 0, k%2)
		for range 64 {
			m.Ask(3, r)
		}
		for now := range 200 {
			m.Step(now)
			if now%3 == 0 {
				m.Came(now, 3, []byte{15, 0, 0, 7, 176})
			}
		}
		masters = append(masters, m)
	}
	if more := held() - before; more > 1<<21 {
		t.Errorf("%d masters with nothing to do hold %d bytes", len(masters), more)
	}
	for _, m := range masters {
		if m.Count() != 0 {
			t.Errorf("Count: %d", m.Count())
		}
	}
	runtime.KeepAlive(masters)
}
