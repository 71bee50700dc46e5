/- Plain mathematics of the digest: words of 32 bits, the schedule, the rounds, the ending. -/
import Derived.Test.YtipaicfmodgcoaaDoorRows
namespace Go.Proofs.YtipaicfmodgcoaaDoor

abbrev Wd := BitVec 32
/-- The constants of the rounds. -/
def kLit : List Nat := [0x428a2f98, 0x71374491, 0xb5c0fbcf, 0xe9b5dba5, 0x3956c25b, 0x59f111f1, 0x923f82a4, 0xab1c5ed5,
  0xd807aa98, 0x12835b01, 0x243185be, 0x550c7dc3, 0x72be5d74, 0x80deb1fe, 0x9bdc06a7, 0xc19bf174,
  0xe49b69c1, 0xefbe4786, 0x0fc19dc6, 0x240ca1cc, 0x2de92c6f, 0x4a7484aa, 0x5cb0a9dc, 0x76f988da,
  0x983e5152, 0xa831c66d, 0xb00327c8, 0xbf597fc7, 0xc6e00bf3, 0xd5a79147, 0x06ca6351, 0x14292967,
  0x27b70a85, 0x2e1b2138, 0x4d2c6dfc, 0x53380d13, 0x650a7354, 0x766a0abb, 0x81c2c92e, 0x92722c85,
  0xa2bfe8a1, 0xa81a664b, 0xc24b8b70, 0xc76c51a3, 0xd192e819, 0xd6990624, 0xf40e3585, 0x106aa070,
  0x19a4c116, 0x1e376c08, 0x2748774c, 0x34b0bcb5, 0x391c0cb3, 0x4ed8aa4a, 0x5b9cca4f, 0x682e6ff3,
  0x748f82ee, 0x78a5636f, 0x84c87814, 0x8cc70208, 0x90befffa, 0xa4506ceb, 0xbef9a3f7, 0xc67178f2]
def kw (i : Nat) : Wd := BitVec.ofNat 32 (kLit.getD i 0)
structure St where
  a : Wd
  b : Wd
  c : Wd
  d : Wd
  e : Wd
  f : Wd
  g : Wd
  h : Wd
/-- The first state. -/
def st0 : St := ⟨0x6a09e667#32, 0xbb67ae85#32, 0x3c6ef372#32, 0xa54ff53a#32, 0x510e527f#32, 0x9b05688c#32, 0x1f83d9ab#32, 0x5be0cd19#32⟩
/-- A word turned to the right. -/
def ror (x : Wd) (n : Nat) : Wd := (x >>> n) ||| (x <<< (32 - n))
def sg0 (x : Wd) : Wd := ror x 7 ^^^ ror x 18 ^^^ (x >>> 3)
def sg1 (x : Wd) : Wd := ror x 17 ^^^ ror x 19 ^^^ (x >>> 10)
def mix1 (x : Wd) : Wd := ror x 6 ^^^ ror x 11 ^^^ ror x 25
def mix0 (x : Wd) : Wd := ror x 2 ^^^ ror x 13 ^^^ ror x 22
def chs (e f g : Wd) : Wd := (e &&& f) ||| (~~~e &&& g)
def maj (a b c : Wd) : Wd := (a &&& b) ||| (a &&& c) ||| (b &&& c)
def ttv (s : St) (k w : Wd) : Wd := s.h + k + w + mix1 s.e + chs s.e s.f s.g
def uuv (s : St) : Wd := mix0 s.a + maj s.a s.b s.c
def step (s : St) (k w : Wd) : St := ⟨ttv s k w + uuv s, s.a, s.b, s.c, s.d + ttv s k w, s.e, s.f, s.g⟩
def rnds (ws : List Wd) (s : St) : Nat → St
  | 0 => s
  | n + 1 => step (rnds ws s n) (kw n) (ws.getD n 0)
def add8 (s t : St) : St := ⟨s.a + t.a, s.b + t.b, s.c + t.c, s.d + t.d, s.e + t.e, s.f + t.f, s.g + t.g, s.h + t.h⟩
def nextW (l : List Wd) (n : Nat) : Wd := l.getD (n - 16) 0 + l.getD (n - 7) 0 + sg0 (l.getD (n - 15) 0) + sg1 (l.getD (n - 2) 0)
def byteAt (p : List UInt8) (i : Nat) : Nat := (p.getD i 0).toNat
def word4 (p : List UInt8) (i : Nat) : Wd := BitVec.ofNat 32 (((byteAt p i * 256 + byteAt p (i + 1)) * 256 + byteAt p (i + 2)) * 256 + byteAt p (i + 3))
/-- The first words of a block's schedule. -/
def sch (p : List UInt8) (at' : Nat) : Nat → List Wd
  | 0 => []
  | n + 1 => sch p at' n ++ [if n < 16 then word4 p (at' + 4 * n) else nextW (sch p at' n) n]
def blk (p : List UInt8) (at' : Nat) (s : St) : St := add8 s (rnds (sch p at' 64) s 64)
def blks (p : List UInt8) : Nat → St
  | 0 => st0
  | n + 1 => blk p (64 * n) (blks p n)
def be4 (x : Wd) : List UInt8 := [UInt8.ofNat (x.toNat / 16777216), UInt8.ofNat (x.toNat / 65536 % 256), UInt8.ofNat (x.toNat / 256 % 256), UInt8.ofNat (x.toNat % 256)]
def outB (s : St) : List UInt8 := be4 s.a ++ be4 s.b ++ be4 s.c ++ be4 s.d ++ be4 s.e ++ be4 s.f ++ be4 s.g ++ be4 s.h
def be8 (n : Nat) : List UInt8 := (List.range 8).map fun i => UInt8.ofNat (n / 256 ^ (7 - i) % 256)
def padn (n : Nat) : Nat := (119 - n % 64) % 64
/-- What comes behind so many bytes. -/
def endB (n : Nat) : List UInt8 := 128 :: (List.replicate (padn n) 0 ++ be8 (8 * n))
def pad (s : List UInt8) : List UInt8 := s ++ endB s.length
def digB (s : List UInt8) : List UInt8 := outB (blks (pad s) ((pad s).length / 64))

theorem dig_abc : digB [97, 98, 99] = [0xba, 0x78, 0x16, 0xbf, 0x8f, 0x01, 0xcf, 0xea, 0x41, 0x41, 0x40, 0xde, 0x5d, 0xae, 0x22, 0x23, 0xb0, 0x03, 0x61, 0xa3, 0x96, 0x17, 0x7a, 0x9c, 0xb4, 0x10, 0xff, 0x61, 0xf2, 0x00, 0x15, 0xad] := by decide +kernel
theorem outB_len (s : St) : (outB s).length = 32 := rfl
theorem digB_len (s : List UInt8) : (digB s).length = 32 := rfl
end Go.Proofs.YtipaicfmodgcoaaDoor
