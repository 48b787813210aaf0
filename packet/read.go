package packet

import (
	"bascule/api"
	"bascule/varint"
	"bascule/wire"
)

// reader goes through the bytes of a packet. Its methods answer what stands where it is, and give up if that is not there.
type reader struct {
	b  []byte
	at int
}

// gaveUp is what a reader panics with: the error that it gave up with.
type gaveUp api.Errno

// read answers the packet that b seem to be; whether it may be is still to be asked.
func read(b []byte) (p api.Packet, e api.Errno) {
	defer func() {
		// A panic that is no giving up would leave a packet of noughts, which may not be: nothing is taken by mistake.
		if why, ok := recover().(gaveUp); ok {
			e = api.Errno(why)
		}
	}()
	r := &reader{b: b}
	return r.packet(), api.OK
}

// must gives up, if what has to hold does not.
func (r *reader) must(ok bool) {
	if !ok {
		panic(gaveUp(api.ErrPacket))
	}
}

// packet reads a whole packet, and holds that nothing stands behind it.
func (r *reader) packet() api.Packet {
	first := r.octet()
	size := r.length()
	r.must(size == r.left())
	p := api.Packet{Type: first / typeBase}
	low := first % typeBase
	r.fields(&p, low)
	r.must(r.left() == 0 && flags(p) == low)
	return p
}

// fields reads those of p, whose type is known; of a type that is none it reads nothing.
func (r *reader) fields(p *api.Packet, low int) {
	switch p.Type {
	case api.Connect:
		r.connect(p)
	case api.Connack:
		r.welcome(p)
	case api.Publish:
		r.publish(p, low)
	case api.Puback, api.Pubrec, api.Pubrel, api.Pubcomp, api.Unsuback:
		p.Id = r.word()
	case api.Subscribe:
		r.names(p, true)
	case api.Suback:
		r.codes(p)
	case api.Unsubscribe:
		r.names(p, false)
	}
}

// connect reads the fields of a Connect.
func (r *reader) connect(p *api.Packet) {
	r.must(r.text() == protocol)
	r.must(r.octet() == level)
	has := r.octet()
	p.Clean = has&cleanMark != 0
	p.HasWill = has&willMark != 0
	// Read even without a will: bits that tell of none make a message, and then the packet may not be.
	p.Msg.Qos = has / qosMark % qosRoom
	p.Msg.Retain = has&retainMark != 0
	p.HasPass = has&passMark != 0
	p.HasUser = has&userMark != 0
	// No mark has the lowest bit.
	r.must(marks(*p) == has)
	p.Alive = r.word()
	p.Client = r.text()
	if p.HasWill {
		p.Msg.Topic = r.text()
		p.Msg.Payload = r.text()
	}
	if p.HasUser {
		p.User = r.text()
	}
	if p.HasPass {
		p.Pass = r.text()
	}
}

// welcome reads the fields of a Connack.
func (r *reader) welcome(p *api.Packet) {
	has := r.octet()
	r.must(has <= presentMark)
	p.Present = has == presentMark
	p.Codes = []int{r.octet()}
}

// publish reads the fields of a Publish, some of which its flags tell.
func (r *reader) publish(p *api.Packet, low int) {
	p.Dup = low&dupFlag != 0
	p.Msg.Qos = low / qosFlag % qosRoom
	p.Msg.Retain = low&retainFlag != 0
	p.Msg.Topic = r.text()
	if p.Msg.Qos > 0 {
		p.Id = r.word()
	}
	p.Msg.Payload = r.rest()
}

// names reads an Id and filters, with their qualities if these are laid down.
func (r *reader) names(p *api.Packet, qos bool) {
	p.Id = r.word()
	for r.left() > 0 {
		s := api.Sub{Filter: r.text()}
		if qos {
			s.Qos = r.octet()
		}
		p.Subs = append(p.Subs, s)
	}
}

// codes reads an Id and codes.
func (r *reader) codes(p *api.Packet) {
	p.Id = r.word()
	p.Codes = make([]int, r.left())
	for k := range p.Codes {
		p.Codes[k] = r.octet()
	}
}

// left answers how many bytes are still to be read.
func (r *reader) left() int {
	return len(r.b) - r.at
}

// octet reads one byte.
func (r *reader) octet() int {
	r.must(r.left() > 0)
	c := r.b[r.at]
	r.at++
	return int(c)
}

// word reads a word.
func (r *reader) word() int {
	n, e := wire.At(r.b, r.at)
	r.must(e == api.OK)
	r.at += wordBytes
	return n
}

// text reads a text.
func (r *reader) text() string {
	s, next, e := wire.TextAt(r.b, r.at)
	r.must(e == api.OK)
	r.at = next
	return s
}

// length reads the length of what stands behind it.
func (r *reader) length() int {
	n, next, e := varint.At(r.b, r.at)
	r.must(e == api.OK)
	r.at = next
	return n
}

// rest reads all bytes that are left.
func (r *reader) rest() string {
	s := string(r.b[r.at:])
	r.at = len(r.b)
	return s
}
