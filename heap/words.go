package heap

// words are those of all objects; the word of the number 1 is the first one, for 0 is null. An object has its shape, its size and its tag ahead of its fields.
type words []int64

// header is how many words an object has ahead of its fields.
const header = 3

func (w words) shape(ref int) int64 { return w[ref-1] }

func (w words) size(ref int) int64 { return w[ref] }

func (w words) tag(ref int) int64 { return w[ref+1] }

func (w words) setTag(ref int, v int64) { w[ref+1] = v }

func (w words) begin(ref, shape, size int) { w[ref-1], w[ref] = int64(shape), int64(size) }

// field answers where in the slice an object's field stands.
func field(ref, n int) int { return ref - 1 + header + n }

// The letters of a shape's text, one for each field.
const (
	number    = 'n'
	reference = 'r'
)

// shapeText makes a text of a list, for a list can't be a map's key.
func shapeText(refs []bool) string {
	text := make([]byte, len(refs))
	for i, is := range refs {
		text[i] = number
		if is {
			text[i] = reference
		}
	}
	return string(text)
}
