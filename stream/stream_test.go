package stream_test

import (
	"math"
	"math/rand"
	"slices"
	"testing"

	"bascule/api"
	"bascule/stream"
)

// P11.1: what most may be, at both edges and between: a stream on which nothing came.
func TestNew(t *testing.T) {
	for _, most := range []int{2, 3, 4, 5, 6, 7, 100, 127, 128, 129, 130, 65535, 65536, 1 << 24, 268435454, 268435455, 268435456, 268435459, 268435460} {
		w := watch(t, most)
		w.tells(nil, 0)
		w.tells(fromHex("c0 00"), 0, api.Packet{Type: 12})
	}
}

// P11.1: what most may not be: no stream beside the error.
func TestNewRefuses(t *testing.T) {
	for _, most := range []int{1, 0, -1, -2, -100, -268435460, 268435461, 268435462, 1 << 29, 1 << 31, 1 << 32, 1<<32 + 2, 1<<32 + 100, 1<<63 - 1, math.MinInt, math.MinInt + 100, -1 << 32, -1<<32 + 100} {
		if s, e := stream.New(most); s != nil || e != api.ErrArg {
			t.Errorf("New(%d): %v, %d", most, s, e)
		}
	}
}

// P11.1: no stream, whatever it is handed.
func TestNil(t *testing.T) {
	var s *stream.Stream
	for _, b := range [][]byte{nil, {}, {1}, fromHex("c0 00"), fromHex("c1 00"), fromHex("30 80 00"), bytesOf(knowns()), make([]byte, 300)} {
		if out, e := s.Feed(b); len(out) != 0 || e != api.ErrNil {
			t.Errorf("Feed(%x): %s, %d", b, brief(out), e)
		}
		if n := s.Left(); n != 0 {
			t.Errorf("Left: %d", n)
		}
	}
}

// P11.2: the chapter's examples.
func TestExamples(t *testing.T) {
	w := watch(t, 100)
	w.tells(fromHex("c0"), 1)
	w.tells(fromHex("00 e0 00"), 0, api.Packet{Type: 12}, api.Packet{Type: 14})
	watch(t, 100).breaks(fromHex("30 63"), api.ErrBig)
	watch(t, 100).breaks(fromHex("c0 00 c1 00"), api.ErrPacket, api.Packet{Type: 12})
}

// P11.2: packets alone: whole at once; ahead of the last byte nothing is told, and with it the packet is, once.
func TestOnePacket(t *testing.T) {
	for _, k := range knowns() {
		last := len(k.b) - 1
		w := watch(t, 300)
		w.tells(k.b, 0, k.p)
		w.tells(nil, 0)

		w = watch(t, 300)
		w.tells(k.b[:last], last)
		w.tells(k.b[last:], 0, k.p)
		w.tells(k.b, 0, k.p)

		w = watch(t, 300)
		for n := range last {
			w.tells(k.b[n:n+1], n+1)
		}
		w.tells(k.b[last:], 0, k.p)
	}
}

// P11.2: Left ahead of a packet, within each of its parts, and behind it.
func TestLeft(t *testing.T) {
	ping := api.Packet{Type: 12}
	for _, k := range knowns() {
		for n := range k.b {
			w := watch(t, 300)
			w.tells(k.b[:n], n)
			w.tells(k.b[n:], 0, k.p)

			w = watch(t, 300)
			w.tells(joined(fromHex("c0 00"), k.b[:n]), n, ping)
			w.tells(joined(k.b[n:], fromHex("c0")), 1, k.p)
			w.tells(fromHex("00"), 0, ping)
		}
	}
}

// P11.2: several packets in one Feed, just ended, lacking a byte, and with one more.
func TestSeveralInOneFeed(t *testing.T) {
	list := knowns()
	for n := 1; n <= len(list); n++ {
		b, packets := bytesOf(list[:n]), packetsOf(list[:n])
		end := list[n-1]
		watch(t, 300).tells(b, 0, packets...)

		w := watch(t, 300)
		w.tells(b[:len(b)-1], len(end.b)-1, packets[:n-1]...)
		w.tells(b[len(b)-1:], 0, end.p)

		w = watch(t, 300)
		w.tells(joined(b, end.b[:1]), 1, packets...)
		w.tells(end.b[1:], 0, end.p)
	}
}

// P11.2: many packets, the same one again and again among them, in one Feed.
func TestManyInOneFeed(t *testing.T) {
	var list []known
	for n := 3; n < 400; n++ {
		list = append(list, publish(n))
		list = append(list, knowns()...)
	}
	watch(t, 1000).tells(bytesOf(list), 0, packetsOf(list)...)
}

// P11.2: Feed without bytes changes nothing, ahead of packets, within them and behind them.
func TestFeedWithoutBytes(t *testing.T) {
	for _, k := range knowns() {
		for n := range k.b {
			for _, none := range [][]byte{nil, {}, make([]byte, 0, 9)} {
				w := watch(t, 300)
				w.tells(none, 0)
				w.tells(k.b[:n], n)
				w.tells(none, n)
				w.tells(none, n)
				w.tells(k.b[n:], 0, k.p)
				w.tells(none, 0)
			}
		}
	}
}

// firsts are first bytes: of each type, some with flags that may be, and some of no packet.
func firsts() []byte {
	return []byte{0x00, 0x10, 0x30, 0x3d, 0x36, 0x62, 0x60, 0x82, 0xc0, 0xc1, 0xf0, 0xff}
}

// holdBreak holds that bytes break a stream with their last one by that error, and not ahead of it, whatever stands behind them, and however they are parted.
func holdBreak(t *testing.T, most int, wrong []byte, why api.Errno) {
	t.Helper()
	for n := range wrong {
		w := watch(t, most)
		w.tells(wrong[:n], n)
		w.tells(nil, n)
		w.breaks(wrong[n:], why)

		w = watch(t, most)
		w.tells(wrong[:n], n)
		w.breaks(joined(wrong[n:], fromHex("c0 00")), why)
	}
	watch(t, most).breaks(joined(wrong, bytesOf(knowns())), why)
	w := watch(t, most)
	last := len(wrong) - 1
	for n := range last {
		w.tells(wrong[n:n+1], n+1)
	}
	w.breaks(wrong[last:], why)
}

// P11.2: a length that is none, of each form, behind any first byte, breaks a stream with the byte that tells it, be most small or great.
func TestLengthsThatAreNone(t *testing.T) {
	for _, length := range []string{
		"80 00", "81 00", "ff 00",
		"80 80 00", "ff ff 00", "80 ff 00",
		"80 80 80 00", "ff ff ff 00", "81 80 80 00",
		"80 80 80 80", "ff ff ff ff", "ff ff ff 80", "80 80 80 ff", "81 82 83 84",
	} {
		for _, first := range firsts() {
			for _, most := range []int{2, 3, 4, 100, 65536, longest} {
				holdBreak(t, most, joined([]byte{first}, fromHex(length)), api.ErrPacket)
			}
		}
	}
}

// P11.2: a packet that is too big by its length, behind any first byte, breaks a stream with the length's last byte, and not ahead of it, though no length that goes on would do.
func TestTooBig(t *testing.T) {
	for _, x := range []struct {
		length string
		whole  int // how many bytes the packet has
	}{
		{"01", 3}, {"02", 4}, {"03", 5}, {"63", 101}, {"7e", 128}, {"7f", 129},
		{"80 01", 131}, {"81 01", 132}, {"ff 01", 258}, {"ff 7f", 16386},
		{"80 80 01", 16388}, {"81 80 01", 16389}, {"ff ff 7f", 2097155},
		{"80 80 80 01", 2097157}, {"81 80 80 01", 2097158}, {"fe ff ff 7f", 268435459}, {"ff ff ff 7f", 268435460},
	} {
		for _, first := range firsts() {
			start := joined([]byte{first}, fromHex(x.length))
			for _, most := range []int{2, 3, 4, x.whole / 2, x.whole - 2, x.whole - 1} {
				if most >= 2 && most < x.whole {
					holdBreak(t, most, start, api.ErrBig)
				}
			}
			// One more byte that may be, and nothing is broken: the rest is waited for.
			for _, most := range []int{x.whole, min(x.whole+1, longest), longest} {
				watch(t, most).tells(start, len(start))
			}
		}
	}
}

// P11.2: a packet of just most bytes is told, and one of a byte more breaks the stream ahead of what stands behind its length.
func TestMost(t *testing.T) {
	sizes := []int{16381, 16382, 16383, 16384, 16385, 16386, 2097150, 2097151, 2097152, 2097153}
	for n := 3; n < 300; n++ {
		sizes = append(sizes, n)
	}
	for _, n := range sizes {
		k := publish(n)
		head := 1 + len(lengthBytes(n))
		w := watch(t, len(k.b))
		w.tells(k.b[:head], head)
		w.tells(k.b[head:], 0, k.p)
		w.tells(joined(k.b, k.b), 0, k.p, k.p)

		watch(t, len(k.b)-1).breaks(k.b[:head], api.ErrBig)
		watch(t, len(k.b)-1).breaks(k.b, api.ErrBig)
		w = watch(t, len(k.b)-1)
		w.tells(k.b[:head-1], head-1)
		w.breaks(k.b[head-1:head], api.ErrBig)
	}
}

// P11.2: most counts of each packet alone, not of all that came.
func TestMostCountsOfEach(t *testing.T) {
	for _, k := range knowns() {
		w := watch(t, len(k.b))
		for range 5 {
			w.tells(joined(k.b, k.b, k.b, k.b[:1]), 1, k.p, k.p, k.p)
			w.tells(joined(k.b[1:], k.b), 0, k.p, k.p)
		}
		if len(k.b) > 2 {
			watch(t, len(k.b)-1).breaks(k.b, api.ErrBig)
		}
	}
}

// P11.2: the longest packet that there is, told by a stream of as many bytes, and too big for one of a byte less as soon as its length is there.
func TestLongest(t *testing.T) {
	head := fromHex("30 ff ff ff 7f 0001 61")
	watch(t, longest-1).breaks(head[:5], api.ErrBig)

	s := open(t, longest)
	part := make([]byte, 1<<24)
	for k := range part {
		part[k] = byte(k>>16) + 1
	}
	came := len(head)
	told, e := s.Feed(head)
	for e == api.OK && came < longest {
		if len(told) != 0 || s.Left() != came {
			t.Fatalf("behind %d bytes: %s, %d left", came, brief(told), s.Left())
		}
		n := min(len(part), longest-came)
		told, e = s.Feed(part[:n])
		came += n
	}
	if len(told) != 1 || e != api.OK || s.Left() != 0 {
		t.Fatalf("%s, %d, %d left", brief(told), e, s.Left())
	}
	m := told[0].Msg
	if told[0].Type != 3 || m.Topic != "a" || len(m.Payload) != longest-len(head) {
		t.Fatalf("%s: %d bytes", brief(told), len(m.Payload))
	}
	for at := 0; at < len(m.Payload); at += len(part) {
		if want := part[:min(len(part), len(m.Payload)-at)]; m.Payload[at:at+len(want)] != string(want) {
			t.Fatalf("from %d on other bytes", at)
		}
	}
}

// wrongs are whole packets, as their lengths say, that are none.
func wrongs() [][]byte {
	var list [][]byte
	for _, digits := range []string{
		"00 00", "f0 00", "10 00", "20 00", "30 00", "40 00", "62 00", "82 00", "90 00", "a2 00", "b0 00",
		"c1 00", "c8 00", "d2 00", "e1 00", "c0 01 00", "e0 02 c0 00",
		"00 03 00 01 61", "f0 03 00 01 61", "ff 02 00 01",
		"20 02 01 01", "20 02 02 00", "20 02 00 06", "20 03 00 00 00",
		"30 02 00 00", "30 03 00 01 00", "30 03 00 01 ff", "30 03 00 02 61", "38 03 00 01 61", "36 05 00 01 61 00 01", "32 05 00 01 61 00 00",
		"40 02 00 00", "41 02 00 01", "40 03 00 01 00", "60 02 00 01", "62 01 01",
		"80 06 00 01 00 01 61 00", "82 02 00 01", "82 06 00 00 00 01 61 00", "82 06 00 01 00 01 61 03", "82 05 00 01 00 00 00",
		"90 02 00 01", "90 03 00 01 03", "a2 06 00 01 00 01 61 00", "b0 04 00 01 00 01",
		"10 0d 00 04 4d 51 54 54 03 02 00 3c 00 01 61", "10 0d 00 04 4d 51 54 54 04 03 00 3c 00 01 61", "10 0c 00 04 4d 51 54 54 04 02 00 3c 00 01",
	} {
		list = append(list, fromHex(digits))
	}
	// A length of two bytes.
	return append(list, joined([]byte{0xc0}, lengthBytes(150), make([]byte, 150)))
}

// P11.2: a whole packet that is none breaks a stream with its last byte, and not ahead of it.
func TestWholeThatAreNone(t *testing.T) {
	for _, wrong := range wrongs() {
		holdBreak(t, len(wrong), wrong, api.ErrPacket)
		holdBreak(t, longest, wrong, api.ErrPacket)
		if len(wrong) > 2 {
			watch(t, len(wrong)-1).breaks(wrong, api.ErrBig)
		}
	}
}

// P11.2: packets ahead of what broke a stream are told with the error, or, if they were whole by an earlier call, not again; those behind it are not told.
func TestBrokenBehindPackets(t *testing.T) {
	type end struct {
		wrong []byte
		why   api.Errno
	}
	ends := []end{
		{fromHex("30 80 00"), api.ErrPacket}, {fromHex("c0 ff ff ff ff"), api.ErrPacket},
		{fromHex("30 80 80 01"), api.ErrBig}, {fromHex("00 ff 7f"), api.ErrBig},
	}
	for _, wrong := range wrongs() {
		ends = append(ends, end{wrong, api.ErrPacket})
	}
	list := knowns()
	b, packets, final := bytesOf(list), packetsOf(list), list[len(list)-1]
	for _, x := range ends {
		for _, behind := range [][]byte{nil, {0xc0}, fromHex("c0 00"), b} {
			all := joined(x.wrong, behind)
			watch(t, 300).breaks(joined(b, all), x.why, packets...)

			w := watch(t, 300)
			w.tells(b, 0, packets...)
			w.breaks(all, x.why)

			w = watch(t, 300)
			last := len(x.wrong) - 1
			w.tells(joined(b, x.wrong[:last]), last, packets...)
			w.breaks(all[last:], x.why)

			w = watch(t, 300)
			w.tells(b[:len(b)-1], len(final.b)-1, packets[:len(packets)-1]...)
			w.breaks(joined(b[len(b)-1:], all), x.why, final.p)
		}
	}
}

// P11.2: of several that could break a stream the one that comes first does, and no other one later.
func TestFirstFaultHolds(t *testing.T) {
	none, big, wrong := fromHex("30 80 00"), fromHex("30 63"), fromHex("c1 00")
	watch(t, 100).breaks(joined(none, big, wrong), api.ErrPacket)
	watch(t, 100).breaks(joined(wrong, big, none), api.ErrPacket)
	watch(t, 100).breaks(joined(big, none, wrong), api.ErrBig)
	watch(t, 100).breaks(joined(big, wrong, none), api.ErrBig)
	// One that is too big, and would be none besides: its length is told first.
	watch(t, 100).breaks(joined(fromHex("f1 63"), make([]byte, 99)), api.ErrBig)
	// Of just most bytes it is none.
	watch(t, 101).breaks(joined(fromHex("f1 63"), make([]byte, 99)), api.ErrPacket)
}

// P11.2: all first two bytes, and all lengths of two bytes, against the model.
func TestEveryStart(t *testing.T) {
	for n := range 65536 {
		for _, most := range []int{2, 100, longest} {
			w := watch(t, most)
			w.feed(byte(n>>8), byte(n))
			w.feed(0)
			w.feed(1)

			w = watch(t, most)
			w.feed(0x30)
			w.feed(byte(n >> 8))
			w.feed(byte(n))
			w.feed(0x80, 0x80, 0)
		}
	}
}

// P11.2: bytes of all sorts, packets and others, in parts of all sizes, against the model.
func TestBytesOfAllSorts(t *testing.T) {
	r := rand.New(rand.NewSource(11))
	list := knowns()
	for range 20000 {
		w := watch(t, []int{2, 10, 27, 100, 202, 203, longest}[r.Intn(7)])
		for range 1 + r.Intn(8) {
			b := slices.Clone(list[r.Intn(len(list))].b)
			if r.Intn(4) == 0 {
				b[r.Intn(len(b))] ^= 1 << r.Intn(8)
			}
			if r.Intn(8) == 0 {
				b = b[:r.Intn(len(b))]
			}
			for len(b) > 0 {
				n := 1 + r.Intn(len(b))
				w.feed(b[:n]...)
				b = b[n:]
			}
		}
	}
}
