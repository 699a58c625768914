/- Bytes as a Go string: in a seat that has package varint, too. -/
import Derived.Test.YtbefhnpmilcffaaDoorVputs
