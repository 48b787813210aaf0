package packet

import (
	"bascule/api"
	"bascule/wire"
)

// The first byte: the type in its upper half, flags in its lower one.
const (
	typeBase   = 16
	dupFlag    = 8
	qosFlag    = 2 // times the quality
	retainFlag = 1
	askFlag    = 2 // of those that ask for an answer with their Id
)

// What a Connect begins with behind its length, and the marks of what it has.
const (
	protocol   = "MQTT"
	level      = 4
	cleanMark  = 2
	willMark   = 4
	qosMark    = 8 // times the quality
	retainMark = 32
	passMark   = 64
	userMark   = 128
)

const (
	presentMark = 1
	qosRoom     = 4 // numbers that the bits of a quality have room for
	wordBytes   = 2
)

// flags answers the lower half of the first byte.
func flags(p api.Packet) int {
	switch p.Type {
	case api.Publish:
		return mark(p.Dup, dupFlag) + qosFlag*p.Msg.Qos + mark(p.Msg.Retain, retainFlag)
	case api.Pubrel, api.Subscribe, api.Unsubscribe:
		return askFlag
	}
	return 0
}

// marks answers the byte of a Connect that tells what it has.
func marks(p api.Packet) int {
	return mark(p.Clean, cleanMark) + mark(p.HasWill, willMark) + qosMark*p.Msg.Qos + mark(p.Msg.Retain, retainMark) + mark(p.HasPass, passMark) + mark(p.HasUser, userMark)
}

// mark answers weight, if it is set; else 0.
func mark(set bool, weight int) int {
	if set {
		return weight
	}
	return 0
}

// texts answers those that a Connect ends with, in their order.
func texts(p api.Packet) []string {
	all := []string{p.Client}
	if p.HasWill {
		all = append(all, p.Msg.Topic, p.Msg.Payload)
	}
	if p.HasUser {
		all = append(all, p.User)
	}
	if p.HasPass {
		all = append(all, p.Pass)
	}
	return all
}

// remain answers how many bytes stand behind the length. They are counted, not laid down, so that a packet that is too big takes no room.
func remain(p api.Packet) int {
	switch p.Type {
	case api.Connect:
		return connectSize(p)
	case api.Connack:
		return 2
	case api.Publish:
		return publishSize(p)
	case api.Subscribe:
		return wordBytes + filtersSize(p.Subs) + len(p.Subs)
	case api.Suback:
		return wordBytes + len(p.Codes)
	case api.Unsubscribe:
		return wordBytes + filtersSize(p.Subs)
	case api.Pingreq, api.Pingresp, api.Disconnect:
		return 0
	}
	return wordBytes
}

// connectSize answers how many bytes of a Connect stand behind the length.
func connectSize(p api.Packet) int {
	n := wordBytes + len(protocol) + 1 + 1 + wordBytes
	for _, s := range texts(p) {
		n += wordBytes + len(s)
	}
	return n
}

// publishSize answers how many bytes of a Publish stand behind the length.
func publishSize(p api.Packet) int {
	n := wordBytes + len(p.Msg.Topic) + len(p.Msg.Payload)
	if p.Msg.Qos > 0 {
		n += wordBytes
	}
	return n
}

// filtersSize answers how many bytes the filters of subs are, as texts.
func filtersSize(subs []api.Sub) int {
	n := 0
	for _, s := range subs {
		n += wordBytes + len(s.Filter)
	}
	return n
}

// behind answers b, and behind it what stands behind the length of a packet that may be.
func behind(b []byte, p api.Packet) []byte {
	switch p.Type {
	case api.Connect:
		return behindConnect(b, p)
	case api.Connack:
		return append(b, byte(mark(p.Present, presentMark)), byte(p.Codes[0]))
	case api.Publish:
		return behindPublish(b, p)
	case api.Subscribe, api.Unsubscribe:
		return behindNames(b, p)
	case api.Suback:
		return behindCodes(b, p)
	case api.Pingreq, api.Pingresp, api.Disconnect:
		return b
	}
	return addWord(b, p.Id)
}

// behindConnect answers b, and what stands behind the length of a Connect.
func behindConnect(b []byte, p api.Packet) []byte {
	b = addText(b, protocol)
	b = append(b, level, byte(marks(p)))
	b = addWord(b, p.Alive)
	for _, s := range texts(p) {
		b = addText(b, s)
	}
	return b
}

// behindPublish answers b, and what stands behind the length of a Publish.
func behindPublish(b []byte, p api.Packet) []byte {
	b = addText(b, p.Msg.Topic)
	if p.Msg.Qos > 0 {
		b = addWord(b, p.Id)
	}
	return append(b, p.Msg.Payload...)
}

// behindNames answers b, and what stands behind the length of a packet that names filters.
func behindNames(b []byte, p api.Packet) []byte {
	b = addWord(b, p.Id)
	for _, s := range p.Subs {
		b = addText(b, s.Filter)
		if p.Type == api.Subscribe {
			b = append(b, byte(s.Qos))
		}
	}
	return b
}

// behindCodes answers b, and what stands behind the length of a Suback.
func behindCodes(b []byte, p api.Packet) []byte {
	b = addWord(b, p.Id)
	for _, c := range p.Codes {
		b = append(b, byte(c))
	}
	return b
}

// addWord answers b, and the word n behind it. It is put behind nothing and added, since Put copies all that it is handed: filter by filter that would be far too much.
func addWord(b []byte, n int) []byte {
	word, _ := wire.Put(nil, n)
	return append(b, word...)
}

// addText answers b, and the text s behind it, added as a word is.
func addText(b []byte, s string) []byte {
	text, _ := wire.PutText(nil, s)
	return append(b, text...)
}
