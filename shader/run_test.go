package shader

import (
	"math"
	"testing"

	"tenants/api"
)

// TestRunAnything: what Run is not made for is no trouble either.
func TestRunAnything(t *testing.T) {
	numbers := []int{math.MinInt, math.MinInt + 1, -65536, -1, 0, 1, 255, 65536, math.MaxInt}
	for op := range 256 {
		for _, x := range numbers {
			for _, y := range numbers {
				for _, b := range []byte{0, 1, 255} {
					code := string([]byte{byte(op), 0, b, 1, byte(op), 0, 0, 1, 7, 7, 7})
					_, steps := Run(code, api.Pixel{X: x, Y: y}, []byte("abc"))
					if steps < 1 || steps > api.MaxSteps {
						t.Fatalf("% x with X %d, Y %d: %d instructions are done", code, x, y, steps)
					}
				}
			}
		}
	}
}

func TestRunLeavesTheTexture(t *testing.T) {
	texture := []byte("abc")
	value, steps := Run("\x06\x00\x01\x00\x01\x00\x00\x01", api.Pixel{Y: 2}, texture)
	if value != 'e' || steps != 2 || string(texture) != "abc" {
		t.Errorf("Run answers %d, %d, and the texture is %q", value, steps, texture)
	}
}
