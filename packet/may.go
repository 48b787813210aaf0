package packet

import (
	"bascule/api"
	"bascule/utf"
)

const (
	maxQos     = 2
	maxRefusal = 5   // of the codes of a Connack
	refused    = 128 // the code of a filter that nothing comes by
)

// mayBe tells whether p has what its type asks for, and nothing beside it.
func mayBe(p api.Packet) bool {
	switch p.Type {
	case api.Connect:
		return mayConnect(p)
	case api.Connack:
		return mayWelcome(p)
	case api.Publish:
		return mayPublish(p)
	case api.Puback, api.Pubrec, api.Pubrel, api.Pubcomp, api.Unsuback:
		return mayAnswer(p)
	case api.Subscribe:
		return mayName(p, maxQos)
	case api.Suback:
		return mayGrant(p)
	case api.Unsubscribe:
		return mayName(p, 0)
	case api.Pingreq, api.Pingresp, api.Disconnect:
		return bare(p)
	}
	return false
}

// mayConnect tells whether a Connect may be.
func mayConnect(p api.Packet) bool {
	if !utf.Is(p.Client) || !isWord(p.Alive) || !mayWill(p) || !mayLogin(p) {
		return false
	}
	p.Client, p.Clean, p.Alive = "", false, 0
	p.HasWill, p.Msg = false, api.Message{}
	p.HasUser, p.User, p.HasPass, p.Pass = false, "", false, ""
	return bare(p)
}

// mayWill tells whether a Connect has a will that may be, or none.
func mayWill(p api.Packet) bool {
	if !p.HasWill {
		return p.Msg == api.Message{}
	}
	return isMessage(p.Msg) && isText(p.Msg.Payload)
}

// mayLogin tells whether a Connect has a user, and a pass of this one, or none.
func mayLogin(p api.Packet) bool {
	if !p.HasUser && (p.User != "" || p.HasPass) {
		return false
	}
	if !p.HasPass && p.Pass != "" {
		return false
	}
	return utf.Is(p.User) && isText(p.Pass)
}

// mayWelcome tells whether a Connack may be.
func mayWelcome(p api.Packet) bool {
	if len(p.Codes) != 1 || !upTo(p.Codes[0], maxRefusal) {
		return false
	}
	if p.Present && p.Codes[0] > 0 {
		return false
	}
	p.Present, p.Codes = false, nil
	return bare(p)
}

// mayPublish tells whether a Publish may be.
func mayPublish(p api.Packet) bool {
	if !isMessage(p.Msg) {
		return false
	}
	if p.Msg.Qos > 0 {
		if !isId(p.Id) {
			return false
		}
		p.Id, p.Dup = 0, false
	}
	p.Msg = api.Message{}
	return bare(p)
}

// mayAnswer tells whether a packet that has an Id alone may be.
func mayAnswer(p api.Packet) bool {
	if !isId(p.Id) {
		return false
	}
	p.Id = 0
	return bare(p)
}

// mayName tells whether a packet that names filters, with qualities up to top, may be.
func mayName(p api.Packet, top int) bool {
	if !isId(p.Id) || len(p.Subs) == 0 {
		return false
	}
	for _, s := range p.Subs {
		if s.Filter == "" || !upTo(s.Qos, top) || !utf.Is(s.Filter) {
			return false
		}
	}
	p.Id, p.Subs = 0, nil
	return bare(p)
}

// mayGrant tells whether a Suback may be.
func mayGrant(p api.Packet) bool {
	if !isId(p.Id) || len(p.Codes) == 0 {
		return false
	}
	for _, c := range p.Codes {
		if !upTo(c, maxQos) && c != refused {
			return false
		}
	}
	p.Id, p.Codes = 0, nil
	return bare(p)
}

// bare tells whether p has nothing but its type. A list without elements may be nil or not, so packets are not compared whole.
func bare(p api.Packet) bool {
	return !p.Dup && p.Id == 0 && p.Msg == api.Message{} &&
		p.Client == "" && !p.Clean && p.Alive == 0 && !p.HasWill &&
		!p.HasUser && !p.HasPass && p.User == "" && p.Pass == "" &&
		!p.Present && len(p.Codes) == 0 && len(p.Subs) == 0
}

// isMessage tells whether m has a topic and a quality that may be; what its payload may be hangs on where it stands.
func isMessage(m api.Message) bool {
	return m.Topic != "" && utf.Is(m.Topic) && upTo(m.Qos, maxQos)
}

// isText tells whether s may be laid down as a text.
func isText(s string) bool {
	return len(s) <= api.MaxString
}

// isWord tells whether n is a word.
func isWord(n int) bool {
	return upTo(n, api.MaxWord)
}

// isId tells whether n may be the number of what is under way.
func isId(n int) bool {
	return n > 0 && isWord(n)
}

// upTo tells whether n is from 0 to top.
func upTo(n, top int) bool {
	return n >= 0 && n <= top
}
