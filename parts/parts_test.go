package parts

import (
	"testing"

	"hibernacle/hash"
	"hibernacle/num"
	"hibernacle/parity"
)

func TestOf(t *testing.T) {
	sum := hash.Sum("some bytes")
	part := Of("n", "some bytes")
	for i, p := range parity.Cut("some bytes") {
		own := hash.Sum(p.Data)
		if part(i) != num.Row("hibs", "n", "10", num.Dec(int64(i+1)), string(sum[:]), string(own[:]), p.Data) {
			t.Error(i)
		}
	}
}
