package slumber

// cursor goes over bytes, from the first on. A fault stays in it, so that whoever reads or writes need not ask at every byte.
type cursor struct {
	bytes []byte
	at    int
	fault bool
}

// next is the place of the next byte, to be read or to be written. Behind the last byte, or a fault, it is a place of its own: what is read there is 0, what is written is lost.
func (c *cursor) next() *byte {
	c.must(c.at < len(c.bytes))
	if c.fault {
		return new(byte)
	}
	c.at++
	return &c.bytes[c.at-1]
}

func (c *cursor) must(hold bool) {
	if !hold {
		c.fault = true
	}
}

func (c *cursor) passed() []byte { return c.bytes[:c.at] }

func (c *cursor) atEnd() bool { return c.at == len(c.bytes) }

// sumSize is how many bytes a sum has.
const sumSize = 4

// sumOf tells the sum of bytes as it stands at the end of an image.
func sumOf(l []byte) []byte {
	register := ^uint32(0)
	for _, b := range l {
		register ^= uint32(b)
		for range 8 {
			low := register & 1
			register >>= 1
			if low == 1 {
				register ^= 0xEDB88320
			}
		}
	}
	sum := ^register
	return []byte{byte(sum), byte(sum >> 8), byte(sum >> 16), byte(sum >> 24)}
}
