import PyProof.Rows.All
import Wide.All
import OpenK.AllK
import Wide.FinOn
import HandS.ForExc
import HandS.ForMost
import HandS.IsInst
import HandS.SortInts
import HandS.DictComp
import HandS.Flow
import HandS.OwnEq
import HandS.Deep
import HandS.HeadHook1
import HandS.TupAny
import PyProof.InstNe
import HandS.Iter
import KE.GoesEnum
import HandS.SetBool
import HandS.Strs
import HandS.Property
import HandS.ExcField
import HandS.ExcInit
import HandS.ExcIs
import HandS.Sort
import HandS.Codes
import HandS.ExcOwn
import HandS.CallSlots
import HandS.More
import HandS.HotCalls
import HandS.ClsMeth
import HandS.ExcCtx
import HandS.ExcInitHot
import HandS.Ends
import KE.KExcSuper
import KE.KSuper
import HandS.Nested
import HandS.FStr
import HandS.Head0
import HandS.Head1
import HandS.Head2
import HandS.HeadEnd
import HandS.HeadHook2
import HandS.HeadHook4
import HandS.HeadNt
import PySem.Challenge.RW_comesapart_k08_followers_turn_at_their_p
set_option Elab.async false
set_option linter.all false
set_option maxRecDepth 100000
set_option maxHeartbeats 0
namespace EV
open PySem L2
/-! ### data with marks: z shared for ever, o held here alone, b looked at only -/
inductive Fl where
  | z | o | b
  deriving DecidableEq
inductive D where
  | non | bl (b : Bool) | int (i : Int) | str (s : Str)
  | tup (ds : List D)
  | lst (f : Fl) (ds : List D)
  | scr (ns : List Int)
  | dic (f : Fl) (ks : List Key) (ds : List D)
  | dit (f : Fl) (ks : List (List Key)) (ds : List D)
  | obj (f : Fl) (c : Str) (ks : List Str) (ds : List D)
  | xcp
/-- an exception: its class, its fields (the last one stored first) -/
structure Exc where
  c : Str
  ks : List Str
  ds : List D
/-- the exception that is handled: its address, its class, its dict -/
structure XQ where
  a : Addr
  cls : Value
  d : Option Addr
/-- the text's objects, and the exception that is handled here -/
structure Kx where
  K : PySem.W.Frag
  q : XQ
instance : CoeOut Kx PySem.W.Frag := ⟨Kx.K⟩
/-- .. and what it is -/
structure Kz where
  k : Kx
  x : Option Exc
  slf : Option Addr
instance : CoeOut Kz Kx := ⟨Kz.k⟩
def flat : D → Option V
  | .non => some .non | .bl b => some (.bl b) | .int i => some (.int i) | .str s => some (.str s) | _ => none
def flats : List D → Option (List V)
  | [] => some []
  | d :: ds => match flat d, flats ds with
    | some v, some vs => some (v :: vs)
    | _, _ => none
/-- the exception x at (cls, d), its dict in S -/
def XqOk (K : PySem.W.Frag) (S : Hp) (x : Exc) (cls : Value) (d : Option Addr) : Prop :=
  cls = .ref (He.ga K x.c) ∧ ((x.ks = [] ∧ d = none) ∨ ∃ dd vs, d = some dd ∧ S dd = some (.xd (x.ks.zip vs)) ∧ flats x.ds = some vs ∧ x.ks.length = vs.length)
def Hd (K : Kz) (S : Hp) : Prop := ∀ x, K.x = some x → XqOk K.k.K S x K.k.q.cls K.k.q.d
theorem XqOk.same {K : PySem.W.Frag} {S S' : Hp} {x : Exc} {cls : Value} {d : Option Addr} (h : XqOk K S x cls d) (s : Same S S') : XqOk K S' x cls d := by
  refine ⟨h.1, h.2.imp id fun ⟨dd, vs, e1, e2, e3, e4⟩ => ⟨dd, vs, e1, s _ _ e2, e3, e4⟩⟩
theorem Hd.same {K : Kz} {S S' : Hp} (h : Hd K S) (s : Same S S') : Hd K S' := fun x e => (h x e).same s
mutual
def noX : D → Bool
  | .non => true | .bl _ => true | .int _ => true | .str _ => true | .scr _ => true
  | .tup ds => noXs ds | .lst _ ds => noXs ds | .dic _ _ ds => noXs ds | .dit _ _ ds => noXs ds | .obj _ _ _ ds => noXs ds
  | .xcp => false
def noXs : List D → Bool
  | [] => true | d :: ds => noX d && noXs ds
end
mutual
def zz : D → D
  | .non => .non | .bl b => .bl b | .int i => .int i | .str s => .str s | .scr ns => .scr ns | .xcp => .xcp
  | .tup ds => .tup (zzs ds) | .lst _ ds => .lst .z (zzs ds) | .dic _ ks ds => .dic .z ks (zzs ds) | .dit _ ks ds => .dit .z ks (zzs ds) | .obj _ c ks ds => .obj .z c ks (zzs ds)
def zzs : List D → List D
  | [] => [] | d :: ds => zz d :: zzs ds
end
def Fl.bb : Fl → Fl
  | .z => .z | _ => .b
mutual
/-- looked at: what is held elsewhere is marked b -/
def bb : D → D
  | .non => .non | .bl b => .bl b | .int i => .int i | .str s => .str s | .scr ns => .scr ns | .xcp => .xcp
  | .tup ds => .tup (bbs ds) | .lst f ds => .lst f.bb (bbs ds) | .dic f ks ds => .dic f.bb ks (bbs ds) | .dit f ks ds => .dit f.bb ks (bbs ds) | .obj f c ks ds => .obj f.bb c ks (bbs ds)
def bbs : List D → List D
  | [] => [] | d :: ds => bb d :: bbs ds
end
def Fl.tt : Fl → Fl
  | .o => .o | _ => .b
mutual
/-- what a def handed back that looked at held things: its shared lists may be those -/
def taint : D → D
  | .non => .non | .bl b => .bl b | .int i => .int i | .str s => .str s | .scr ns => .scr ns | .xcp => .xcp
  | .tup ds => .tup (taints ds) | .lst f ds => .lst f.tt (taints ds) | .dic f ks ds => .dic f.tt ks (taints ds) | .dit f ks ds => .dit f.tt ks (taints ds) | .obj f c ks ds => .obj f.tt c ks (taints ds)
def taints : List D → List D
  | [] => [] | d :: ds => taint d :: taints ds
end
def Fl.tl : Fl → Fl
  | .z => .z | f => f.tt
mutual
/-- .. when it looked at no held instance -/
def taintL : D → D
  | .non => .non | .bl b => .bl b | .int i => .int i | .str s => .str s | .scr ns => .scr ns | .xcp => .xcp
  | .tup ds => .tup (taintLs ds) | .lst f ds => .lst f.tt (taintLs ds) | .dic f ks ds => .dic f.tt ks (taintLs ds) | .dit f ks ds => .dit f.tt ks (taintLs ds) | .obj f c ks ds => .obj f.tl c ks (taintLs ds)
def taintLs : List D → List D
  | [] => [] | d :: ds => taintL d :: taintLs ds
end
mutual
/-- no held instance in it -/
def objZ : D → Bool
  | .non => true | .bl _ => true | .int _ => true | .str _ => true | .scr _ => true | .xcp => true
  | .tup ds => objZs ds | .lst _ ds => objZs ds | .dic _ _ ds => objZs ds | .dit _ _ ds => objZs ds | .obj f _ _ ds => decide (f = .z) && objZs ds
def objZs : List D → Bool
  | [] => true | d :: ds => objZ d && objZs ds
end
mutual
def clean : D → Bool
  | .non => true | .bl _ => true | .int _ => true | .str _ => true | .scr _ => true | .xcp => true
  | .tup ds => cleans ds | .lst f ds => decide (f ≠ .b) && cleans ds | .dic f _ ds => decide (f ≠ .b) && cleans ds | .dit f _ ds => decide (f ≠ .b) && cleans ds | .obj f _ _ ds => decide (f ≠ .b) && cleans ds
def cleans : List D → Bool
  | [] => true | d :: ds => clean d && cleans ds
end
mutual
def isZ : D → Bool
  | .non => true | .bl _ => true | .int _ => true | .str _ => true | .scr _ => true | .xcp => true
  | .tup ds => isZs ds | .lst f ds => decide (f = .z) && isZs ds | .dic f _ ds => decide (f = .z) && isZs ds | .dit f _ ds => decide (f = .z) && isZs ds | .obj f _ _ ds => decide (f = .z) && isZs ds
def isZs : List D → Bool
  | [] => true | d :: ds => isZ d && isZs ds
end

/-! ### how data stands in the heap -/
theorem Same.seqT {K : PySem.W.Frag} {H H' : Hp} {a : Addr} {xs : List V} (e : Same H H') (h : SqT K H a xs) : SqT K H' a xs := by
  rcases h with (h | ⟨o, h⟩) | h
  · exact .inl (.inl (e _ _ h))
  · exact .inl (.inr ⟨o, e _ _ h⟩)
  · exact .inr h
theorem Same.rd {H H' : Hp} {a : Addr} {o : HO} (e : Same H H') (h : Rd H a o) : Rd H' a o := by
  rcases h with h | ⟨u, h⟩
  · exact .inl (e _ _ h)
  · exact .inr ⟨u, e _ _ h⟩
/-- the script: it stands locked, or with the text's own objects -/
def Scr (K : PySem.W.Frag) (S : Hp) (a : Addr) (ns : List Int) : Prop := (∃ o, S a = some (.frz o (.lst (ns.map V.int)))) ∨ ∀ H : Hp, SqL K H a (ns.map V.int)
theorem Scr.seq {K : PySem.W.Frag} {S : Hp} {a : Addr} {ns : List Int} (h : Scr K S a ns) : SqL K S a (ns.map V.int) := by
  rcases h with ⟨o, h⟩ | h
  · exact .inl (.inr ⟨o, h⟩)
  · exact h S
theorem Scr.same {K : PySem.W.Frag} {S S' : Hp} {a : Addr} {ns : List Int} (h : Scr K S a ns) (s : Same S S') : Scr K S' a ns := by
  rcases h with ⟨o, h⟩ | h
  · exact .inl ⟨o, s _ _ h⟩
  · exact .inr h
/-- a kind of thing that may be held -/
def Mu : HO → Prop
  | .lst _ => True
  | .dK _ => True
  | .dT _ => True
  | .ins _ _ _ => True
  | .own _ => True
  | _ => False
def Hld (H : Hp) (p : Addr) : Prop := ∃ o, H p = some o ∧ Mu o
/-- keys beside their values, none twice -/
def KL {κ α : Type} (ks : List κ) (vs : List α) : Prop := ks.length = vs.length ∧ ks.Nodup
section
variable (K : Kx) (S H : Hp)
mutual
def Own : D → V → List Addr → Prop
  | .non, v, B => v = .non ∧ B = []
  | .bl b, v, B => v = .bl b ∧ B = []
  | .int i, v, B => v = .int i ∧ B = []
  | .str s, v, B => v = .str s ∧ B = []
  | .scr ns, v, B => B = [] ∧ ∃ a, v = .ref a ∧ Scr K S a ns
  | .xcp, v, B => v = .ref K.q.a ∧ B = []
  | .tup ds, v, B => B = [] ∧ ∃ a vs, v = .ref a ∧ S a = some (.tup vs) ∧ Owns ds vs []
  | .lst .z ds, v, B => B = [] ∧ ∃ a vs, v = .ref a ∧ S a = some (.lst vs) ∧ Owns ds vs []
  | .lst .b ds, v, B => B = [] ∧ ∃ a vs, v = .ref a ∧ H a = some (.lst vs) ∧ Owns ds vs []
  | .lst .o ds, v, B => ∃ p vs B', v = .ref p ∧ B = p :: B' ∧ H p = some (.lst vs) ∧ Owns ds vs B'
  | .dic .z ks ds, v, B => B = [] ∧ ∃ a vs, v = .ref a ∧ Rd S a (.dK (ks.zip vs)) ∧ KL ks vs ∧ Owns ds vs []
  | .dic .b ks ds, v, B => B = [] ∧ ∃ a vs, v = .ref a ∧ Rd H a (.dK (ks.zip vs)) ∧ KL ks vs ∧ Owns ds vs []
  | .dic .o ks ds, v, B => ∃ p vs B', v = .ref p ∧ B = p :: B' ∧ H p = some (.dK (ks.zip vs)) ∧ KL ks vs ∧ Owns ds vs B'
  | .dit .z ks ds, v, B => B = [] ∧ ∃ a vs, v = .ref a ∧ Rd S a (.dT (ks.zip vs)) ∧ KL ks vs ∧ Owns ds vs []
  | .dit .b ks ds, v, B => B = [] ∧ ∃ a vs, v = .ref a ∧ Rd H a (.dT (ks.zip vs)) ∧ KL ks vs ∧ Owns ds vs []
  | .dit .o ks ds, v, B => ∃ p vs B', v = .ref p ∧ B = p :: B' ∧ H p = some (.dT (ks.zip vs)) ∧ KL ks vs ∧ Owns ds vs B'
  | .obj .z c ks ds, v, B => B = [] ∧ ∃ a dx vs, v = .ref a ∧ S a = some (.ins (He.ga K c) dx (ks.zip vs)) ∧ KL ks vs ∧ Owns ds vs []
  | .obj .b c ks ds, v, B => B = [] ∧ ∃ a dx vs, v = .ref a ∧ H a = some (.ins (He.ga K c) dx (ks.zip vs)) ∧ KL ks vs ∧ Owns ds vs []
  | .obj .o c ks ds, v, B => ∃ p dx vs B', v = .ref p ∧ B = p :: dx :: B' ∧ H p = some (.ins (He.ga K c) dx (ks.zip vs)) ∧ H dx = some (.own p) ∧ KL ks vs ∧ Owns ds vs B'
def Owns : List D → List V → List Addr → Prop
  | [], vs, B => vs = [] ∧ B = []
  | d :: ds, vs, B => ∃ v vs' B1 B2, vs = v :: vs' ∧ B = B1 ++ B2 ∧ Own d v B1 ∧ Owns ds vs' B2
end
end
variable {K : Kx} {S S' H H' : Hp}
mutual
/-- the heap may grow; held objects stand as they stood -/
theorem Own.keep (hS : Same S S') : ∀ (d : D) (v : V) (B : List Addr), (clean d = true ∨ Same H H') → (∀ p ∈ B, H' p = H p) → Own K S H d v B → Own K S' H' d v B
  | .non, v, B, _, _, h => h
  | .bl _, v, B, _, _, h => h
  | .int _, v, B, _, _, h => h
  | .str _, v, B, _, _, h => h
  | .xcp, v, B, _, _, h => h
  | .scr _, v, B, _, _, h => ⟨h.1, h.2.imp fun _ q => ⟨q.1, q.2.same hS⟩⟩
  | .tup ds, v, B, c, k, h => by
    obtain ⟨e, a, vs, ev, q, r⟩ := h
    exact ⟨e, a, vs, ev, hS _ _ q, Owns.keep hS ds vs [] (c.imp (fun c => by simpa [clean] using c) id) (fun _ z => nomatch z) r⟩
  | .lst .z ds, v, B, c, k, h => by
    obtain ⟨e, a, vs, ev, q, r⟩ := h
    exact ⟨e, a, vs, ev, hS _ _ q, Owns.keep hS ds vs [] (c.imp (fun c => by simpa [clean] using c) id) (fun _ z => nomatch z) r⟩
  | .lst .b ds, v, B, c, k, h => by
    obtain ⟨e, a, vs, ev, q, r⟩ := h
    rcases c with c | c
    · simp [clean] at c
    · exact ⟨e, a, vs, ev, c _ _ q, Owns.keep hS ds vs [] (.inr c) (fun _ z => nomatch z) r⟩
  | .lst .o ds, v, B, c, k, h => by
    obtain ⟨p, vs, B', ev, e, q, r⟩ := h
    subst e
    exact ⟨p, vs, B', ev, rfl, (k p (by simp)).trans q, Owns.keep hS ds vs B' (c.imp (fun c => by simpa [clean] using c) id) (fun a z => k a (by simp [z])) r⟩
  | .dic .z ks ds, v, B, c, k, h => by
    obtain ⟨e, a, vs, ev, q, l, r⟩ := h
    exact ⟨e, a, vs, ev, Same.rd hS q, l, Owns.keep hS ds vs [] (c.imp (fun c => by simpa [clean] using c) id) (fun _ z => nomatch z) r⟩
  | .dic .b ks ds, v, B, c, k, h => by
    obtain ⟨e, a, vs, ev, q, l, r⟩ := h
    rcases c with c | c
    · simp [clean] at c
    · exact ⟨e, a, vs, ev, Same.rd c q, l, Owns.keep hS ds vs [] (.inr c) (fun _ z => nomatch z) r⟩
  | .dic .o ks ds, v, B, c, k, h => by
    obtain ⟨p, vs, B', ev, e, q, l, r⟩ := h
    subst e
    exact ⟨p, vs, B', ev, rfl, (k p (by simp)).trans q, l, Owns.keep hS ds vs B' (c.imp (fun c => by simpa [clean] using c) id) (fun a z => k a (by simp [z])) r⟩
  | .dit .z ks ds, v, B, c, k, h => by
    obtain ⟨e, a, vs, ev, q, l, r⟩ := h
    exact ⟨e, a, vs, ev, Same.rd hS q, l, Owns.keep hS ds vs [] (c.imp (fun c => by simpa [clean] using c) id) (fun _ z => nomatch z) r⟩
  | .dit .b ks ds, v, B, c, k, h => by
    obtain ⟨e, a, vs, ev, q, l, r⟩ := h
    rcases c with c | c
    · simp [clean] at c
    · exact ⟨e, a, vs, ev, Same.rd c q, l, Owns.keep hS ds vs [] (.inr c) (fun _ z => nomatch z) r⟩
  | .dit .o ks ds, v, B, c, k, h => by
    obtain ⟨p, vs, B', ev, e, q, l, r⟩ := h
    subst e
    exact ⟨p, vs, B', ev, rfl, (k p (by simp)).trans q, l, Owns.keep hS ds vs B' (c.imp (fun c => by simpa [clean] using c) id) (fun a z => k a (by simp [z])) r⟩
  | .obj .z c0 ks ds, v, B, c, k, h => by
    obtain ⟨e, a, dx, vs, ev, q, l, r⟩ := h
    exact ⟨e, a, dx, vs, ev, hS _ _ q, l, Owns.keep hS ds vs [] (c.imp (fun c => by simpa [clean] using c) id) (fun _ z => nomatch z) r⟩
  | .obj .b c0 ks ds, v, B, c, k, h => by
    obtain ⟨e, a, dx, vs, ev, q, l, r⟩ := h
    rcases c with c | c
    · simp [clean] at c
    · exact ⟨e, a, dx, vs, ev, c _ _ q, l, Owns.keep hS ds vs [] (.inr c) (fun _ z => nomatch z) r⟩
  | .obj .o c0 ks ds, v, B, c, k, h => by
    obtain ⟨p, dx, vs, B', ev, e, q, q2, l, r⟩ := h
    subst e
    exact ⟨p, dx, vs, B', ev, rfl, (k p (by simp)).trans q, (k dx (by simp)).trans q2, l, Owns.keep hS ds vs B' (c.imp (fun c => by simpa [clean] using c) id) (fun a z => k a (by simp [z])) r⟩
theorem Owns.keep (hS : Same S S') : ∀ (ds : List D) (vs : List V) (B : List Addr), (cleans ds = true ∨ Same H H') → (∀ p ∈ B, H' p = H p) → Owns K S H ds vs B → Owns K S' H' ds vs B
  | [], vs, B, _, _, h => h
  | d :: ds, vs, B, c, k, h => by
    obtain ⟨v, vs', B1, B2, e1, e2, r, rs⟩ := h
    subst e2
    exact ⟨v, vs', B1, B2, e1, rfl, Own.keep hS d v B1 (c.imp (fun c => by simp [cleans] at c; exact c.1) id) (fun a z => k a (by simp [z])) r,
      Owns.keep hS ds vs' B2 (c.imp (fun c => by simp [cleans] at c; exact c.2) id) (fun a z => k a (by simp [z])) rs⟩
end
mutual
/-- what is held is there -/
theorem Own.there : ∀ (d : D) (v : V) (B : List Addr), Own K S H d v B → ∀ p ∈ B, Hld H p
  | .non, v, B, h => by obtain ⟨_, rfl⟩ := h; simp
  | .bl _, v, B, h => by obtain ⟨_, rfl⟩ := h; simp
  | .int _, v, B, h => by obtain ⟨_, rfl⟩ := h; simp
  | .str _, v, B, h => by obtain ⟨_, rfl⟩ := h; simp
  | .xcp, v, B, h => by obtain ⟨_, rfl⟩ := h; simp
  | .scr _, v, B, h => by obtain ⟨rfl, _⟩ := h; simp
  | .tup ds, v, B, h => by obtain ⟨rfl, _⟩ := h; simp
  | .lst .z ds, v, B, h => by obtain ⟨rfl, _⟩ := h; simp
  | .lst .b ds, v, B, h => by obtain ⟨rfl, _⟩ := h; simp
  | .lst .o ds, v, B, h => by
    obtain ⟨p, vs, B', ev, e, q, r⟩ := h
    subst e
    intro a ha
    rcases List.mem_cons.mp ha with rfl | ha
    · exact ⟨_, q, trivial⟩
    · exact Owns.there ds vs B' r a ha
  | .dic .z ks ds, v, B, h => by obtain ⟨rfl, _⟩ := h; simp
  | .dic .b ks ds, v, B, h => by obtain ⟨rfl, _⟩ := h; simp
  | .dic .o ks ds, v, B, h => by
    obtain ⟨p, vs, B', ev, e, q, l, r⟩ := h
    subst e
    intro a ha
    rcases List.mem_cons.mp ha with rfl | ha
    · exact ⟨_, q, trivial⟩
    · exact Owns.there ds vs B' r a ha
  | .dit .z ks ds, v, B, h => by obtain ⟨rfl, _⟩ := h; simp
  | .dit .b ks ds, v, B, h => by obtain ⟨rfl, _⟩ := h; simp
  | .dit .o ks ds, v, B, h => by
    obtain ⟨p, vs, B', ev, e, q, l, r⟩ := h
    subst e
    intro a ha
    rcases List.mem_cons.mp ha with rfl | ha
    · exact ⟨_, q, trivial⟩
    · exact Owns.there ds vs B' r a ha
  | .obj .z _ ks ds, v, B, h => by obtain ⟨rfl, _⟩ := h; simp
  | .obj .b _ ks ds, v, B, h => by obtain ⟨rfl, _⟩ := h; simp
  | .obj .o _ ks ds, v, B, h => by
    obtain ⟨p, dx, vs, B', ev, e, q, q2, l, r⟩ := h
    subst e
    intro a ha
    rcases List.mem_cons.mp ha with rfl | ha
    · exact ⟨_, q, trivial⟩
    · rcases List.mem_cons.mp ha with rfl | ha
      · exact ⟨_, q2, trivial⟩
      · exact Owns.there ds vs B' r a ha
theorem Owns.there : ∀ (ds : List D) (vs : List V) (B : List Addr), Owns K S H ds vs B → ∀ p ∈ B, Hld H p
  | [], vs, B, h => by obtain ⟨_, rfl⟩ := h; simp
  | d :: ds, vs, B, h => by
    obtain ⟨v, vs', B1, B2, e1, e2, r, rs⟩ := h
    subst e2
    intro a ha
    rcases List.mem_append.mp ha with ha | ha
    · exact Own.there d v B1 r a ha
    · exact Owns.there ds vs' B2 rs a ha
end
mutual
/-- shared from now on -/
theorem Own.freeze (hS : Same S S') : ∀ (d : D) (v : V) (B : List Addr), clean d = true → (∀ p ∈ B, S' p = H p) → Own K S H d v B → Own K S' H' (zz d) v []
  | .non, v, B, c, k, h => ⟨h.1, rfl⟩
  | .bl _, v, B, c, k, h => ⟨h.1, rfl⟩
  | .int _, v, B, c, k, h => ⟨h.1, rfl⟩
  | .str _, v, B, c, k, h => ⟨h.1, rfl⟩
  | .xcp, v, B, c, k, h => ⟨h.1, rfl⟩
  | .scr _, v, B, c, k, h => ⟨rfl, h.2.imp fun _ q => ⟨q.1, q.2.same hS⟩⟩
  | .tup ds, v, B, c, k, h => by
    obtain ⟨e, a, vs, ev, q, r⟩ := h
    exact ⟨rfl, a, vs, ev, hS _ _ q, Owns.freeze hS ds vs [] (by simpa [clean] using c) (fun _ z => nomatch z) r⟩
  | .lst .z ds, v, B, c, k, h => by
    obtain ⟨e, a, vs, ev, q, r⟩ := h
    exact ⟨rfl, a, vs, ev, hS _ _ q, Owns.freeze hS ds vs [] (by simpa [clean] using c) (fun _ z => nomatch z) r⟩
  | .lst .b ds, v, B, c, k, h => by simp [clean] at c
  | .lst .o ds, v, B, c, k, h => by
    obtain ⟨p, vs, B', ev, e, q, r⟩ := h
    subst e
    exact ⟨rfl, p, vs, ev, (k p (by simp)).trans q, Owns.freeze hS ds vs B' (by simpa [clean] using c) (fun a z => k a (by simp [z])) r⟩
  | .dic .z ks ds, v, B, c, k, h => by
    obtain ⟨e, a, vs, ev, q, l, r⟩ := h
    exact ⟨rfl, a, vs, ev, Same.rd hS q, l, Owns.freeze hS ds vs [] (by simpa [clean] using c) (fun _ z => nomatch z) r⟩
  | .dic .b ks ds, v, B, c, k, h => by simp [clean] at c
  | .dic .o ks ds, v, B, c, k, h => by
    obtain ⟨p, vs, B', ev, e, q, l, r⟩ := h
    subst e
    exact ⟨rfl, p, vs, ev, .inl ((k p (by simp)).trans q), l, Owns.freeze hS ds vs B' (by simpa [clean] using c) (fun a z => k a (by simp [z])) r⟩
  | .dit .z ks ds, v, B, c, k, h => by
    obtain ⟨e, a, vs, ev, q, l, r⟩ := h
    exact ⟨rfl, a, vs, ev, Same.rd hS q, l, Owns.freeze hS ds vs [] (by simpa [clean] using c) (fun _ z => nomatch z) r⟩
  | .dit .b ks ds, v, B, c, k, h => by simp [clean] at c
  | .dit .o ks ds, v, B, c, k, h => by
    obtain ⟨p, vs, B', ev, e, q, l, r⟩ := h
    subst e
    exact ⟨rfl, p, vs, ev, .inl ((k p (by simp)).trans q), l, Owns.freeze hS ds vs B' (by simpa [clean] using c) (fun a z => k a (by simp [z])) r⟩
  | .obj .z c0 ks ds, v, B, c, k, h => by
    obtain ⟨e, a, dx, vs, ev, q, l, r⟩ := h
    exact ⟨rfl, a, dx, vs, ev, hS _ _ q, l, Owns.freeze hS ds vs [] (by simpa [clean] using c) (fun _ z => nomatch z) r⟩
  | .obj .b c0 ks ds, v, B, c, k, h => by simp [clean] at c
  | .obj .o c0 ks ds, v, B, c, k, h => by
    obtain ⟨p, dx, vs, B', ev, e, q, q2, l, r⟩ := h
    subst e
    exact ⟨rfl, p, dx, vs, ev, (k p (by simp)).trans q, l, Owns.freeze hS ds vs B' (by simpa [clean] using c) (fun a z => k a (by simp [z])) r⟩
theorem Owns.freeze (hS : Same S S') : ∀ (ds : List D) (vs : List V) (B : List Addr), cleans ds = true → (∀ p ∈ B, S' p = H p) → Owns K S H ds vs B → Owns K S' H' (zzs ds) vs []
  | [], vs, B, c, k, h => ⟨h.1, rfl⟩
  | d :: ds, vs, B, c, k, h => by
    obtain ⟨v, vs', B1, B2, e1, e2, r, rs⟩ := h
    subst e2
    simp [cleans] at c
    exact ⟨v, vs', [], [], e1, rfl, Own.freeze hS d v B1 c.1 (fun a z => k a (by simp [z])) r, Owns.freeze hS ds vs' B2 c.2 (fun a z => k a (by simp [z])) rs⟩
end
mutual
/-- looked at -/
theorem Own.borrow (hS : Same S H) : ∀ (d : D) (v : V) (B : List Addr), Own K S H d v B → Own K S H (bb d) v []
  | .non, v, B, h => ⟨h.1, rfl⟩
  | .bl _, v, B, h => ⟨h.1, rfl⟩
  | .int _, v, B, h => ⟨h.1, rfl⟩
  | .str _, v, B, h => ⟨h.1, rfl⟩
  | .xcp, v, B, h => ⟨h.1, rfl⟩
  | .scr _, v, B, h => ⟨rfl, h.2⟩
  | .tup ds, v, B, h => by
    obtain ⟨e, a, vs, ev, q, r⟩ := h
    exact ⟨rfl, a, vs, ev, q, Owns.borrow hS ds vs [] r⟩
  | .lst .z ds, v, B, h => by
    obtain ⟨e, a, vs, ev, q, r⟩ := h
    exact ⟨rfl, a, vs, ev, q, Owns.borrow hS ds vs [] r⟩
  | .lst .b ds, v, B, h => by
    obtain ⟨e, a, vs, ev, q, r⟩ := h
    exact ⟨rfl, a, vs, ev, q, Owns.borrow hS ds vs [] r⟩
  | .lst .o ds, v, B, h => by
    obtain ⟨p, vs, B', ev, e, q, r⟩ := h
    exact ⟨rfl, p, vs, ev, q, Owns.borrow hS ds vs B' r⟩
  | .dic .z ks ds, v, B, h => by
    obtain ⟨e, a, vs, ev, q, l, r⟩ := h
    exact ⟨rfl, a, vs, ev, q, l, Owns.borrow hS ds vs [] r⟩
  | .dic .b ks ds, v, B, h => by
    obtain ⟨e, a, vs, ev, q, l, r⟩ := h
    exact ⟨rfl, a, vs, ev, q, l, Owns.borrow hS ds vs [] r⟩
  | .dic .o ks ds, v, B, h => by
    obtain ⟨p, vs, B', ev, e, q, l, r⟩ := h
    exact ⟨rfl, p, vs, ev, .inl q, l, Owns.borrow hS ds vs B' r⟩
  | .dit .z ks ds, v, B, h => by
    obtain ⟨e, a, vs, ev, q, l, r⟩ := h
    exact ⟨rfl, a, vs, ev, q, l, Owns.borrow hS ds vs [] r⟩
  | .dit .b ks ds, v, B, h => by
    obtain ⟨e, a, vs, ev, q, l, r⟩ := h
    exact ⟨rfl, a, vs, ev, q, l, Owns.borrow hS ds vs [] r⟩
  | .dit .o ks ds, v, B, h => by
    obtain ⟨p, vs, B', ev, e, q, l, r⟩ := h
    exact ⟨rfl, p, vs, ev, .inl q, l, Owns.borrow hS ds vs B' r⟩
  | .obj .z c0 ks ds, v, B, h => by
    obtain ⟨e, a, dx, vs, ev, q, l, r⟩ := h
    exact ⟨rfl, a, dx, vs, ev, q, l, Owns.borrow hS ds vs [] r⟩
  | .obj .b c0 ks ds, v, B, h => by
    obtain ⟨e, a, dx, vs, ev, q, l, r⟩ := h
    exact ⟨rfl, a, dx, vs, ev, q, l, Owns.borrow hS ds vs [] r⟩
  | .obj .o c0 ks ds, v, B, h => by
    obtain ⟨p, dx, vs, B', ev, e, q, q2, l, r⟩ := h
    exact ⟨rfl, p, dx, vs, ev, q, l, Owns.borrow hS ds vs B' r⟩
theorem Owns.borrow (hS : Same S H) : ∀ (ds : List D) (vs : List V) (B : List Addr), Owns K S H ds vs B → Owns K S H (bbs ds) vs []
  | [], vs, B, h => ⟨h.1, rfl⟩
  | d :: ds, vs, B, h => by
    obtain ⟨v, vs', B1, B2, e1, e2, r, rs⟩ := h
    exact ⟨v, vs', [], [], e1, rfl, Own.borrow hS d v B1 r, Owns.borrow hS ds vs' B2 rs⟩
end
mutual
/-- as a callee sees it: all is shared, in the whole heap -/
theorem Own.view (hS : Same S H) : ∀ (d : D) (v : V) (B : List Addr), Own K S H d v B → Own K H H (zz d) v []
  | .non, v, B, h => ⟨h.1, rfl⟩
  | .bl _, v, B, h => ⟨h.1, rfl⟩
  | .int _, v, B, h => ⟨h.1, rfl⟩
  | .str _, v, B, h => ⟨h.1, rfl⟩
  | .xcp, v, B, h => ⟨h.1, rfl⟩
  | .scr _, v, B, h => ⟨rfl, h.2.imp fun _ q => ⟨q.1, q.2.same hS⟩⟩
  | .tup ds, v, B, h => by
    obtain ⟨e, a, vs, ev, q, r⟩ := h
    exact ⟨rfl, a, vs, ev, hS _ _ q, Owns.view hS ds vs [] r⟩
  | .lst .z ds, v, B, h => by
    obtain ⟨e, a, vs, ev, q, r⟩ := h
    exact ⟨rfl, a, vs, ev, hS _ _ q, Owns.view hS ds vs [] r⟩
  | .lst .b ds, v, B, h => by
    obtain ⟨e, a, vs, ev, q, r⟩ := h
    exact ⟨rfl, a, vs, ev, q, Owns.view hS ds vs [] r⟩
  | .lst .o ds, v, B, h => by
    obtain ⟨p, vs, B', ev, e, q, r⟩ := h
    exact ⟨rfl, p, vs, ev, q, Owns.view hS ds vs B' r⟩
  | .dic .z ks ds, v, B, h => by
    obtain ⟨e, a, vs, ev, q, l, r⟩ := h
    exact ⟨rfl, a, vs, ev, Same.rd hS q, l, Owns.view hS ds vs [] r⟩
  | .dic .b ks ds, v, B, h => by
    obtain ⟨e, a, vs, ev, q, l, r⟩ := h
    exact ⟨rfl, a, vs, ev, q, l, Owns.view hS ds vs [] r⟩
  | .dic .o ks ds, v, B, h => by
    obtain ⟨p, vs, B', ev, e, q, l, r⟩ := h
    exact ⟨rfl, p, vs, ev, .inl q, l, Owns.view hS ds vs B' r⟩
  | .dit .z ks ds, v, B, h => by
    obtain ⟨e, a, vs, ev, q, l, r⟩ := h
    exact ⟨rfl, a, vs, ev, Same.rd hS q, l, Owns.view hS ds vs [] r⟩
  | .dit .b ks ds, v, B, h => by
    obtain ⟨e, a, vs, ev, q, l, r⟩ := h
    exact ⟨rfl, a, vs, ev, q, l, Owns.view hS ds vs [] r⟩
  | .dit .o ks ds, v, B, h => by
    obtain ⟨p, vs, B', ev, e, q, l, r⟩ := h
    exact ⟨rfl, p, vs, ev, .inl q, l, Owns.view hS ds vs B' r⟩
  | .obj .z c0 ks ds, v, B, h => by
    obtain ⟨e, a, dx, vs, ev, q, l, r⟩ := h
    exact ⟨rfl, a, dx, vs, ev, hS _ _ q, l, Owns.view hS ds vs [] r⟩
  | .obj .b c0 ks ds, v, B, h => by
    obtain ⟨e, a, dx, vs, ev, q, l, r⟩ := h
    exact ⟨rfl, a, dx, vs, ev, q, l, Owns.view hS ds vs [] r⟩
  | .obj .o c0 ks ds, v, B, h => by
    obtain ⟨p, dx, vs, B', ev, e, q, q2, l, r⟩ := h
    exact ⟨rfl, p, dx, vs, ev, q, l, Owns.view hS ds vs B' r⟩
theorem Owns.view (hS : Same S H) : ∀ (ds : List D) (vs : List V) (B : List Addr), Owns K S H ds vs B → Owns K H H (zzs ds) vs []
  | [], vs, B, h => ⟨h.1, rfl⟩
  | d :: ds, vs, B, h => by
    obtain ⟨v, vs', B1, B2, e1, e2, r, rs⟩ := h
    exact ⟨v, vs', [], [], e1, rfl, Own.view hS d v B1 r, Owns.view hS ds vs' B2 rs⟩
end
/-- what never changes: tuples, instances that are shared -/
def Imm : HO → Prop
  | .tup _ => True
  | .frz _ (.tup _) => True
  | .frz _ (.lst _) => True
  | .xd _ => True
  | _ => False
mutual
/-- handed back by a callee that saw S' : only what is fresh there, and what never changes, is kept in S -/
theorem Own.taint (hI : ∀ a o, S' a = some o → Imm o → S a = some o) (hH : Same S' H) : ∀ (d : D) (v : V) (B : List Addr), Own K S' H d v B → Own K S H (taint d) v B
  | .non, v, B, h => h
  | .bl _, v, B, h => h
  | .int _, v, B, h => h
  | .str _, v, B, h => h
  | .xcp, v, B, h => h
  | .scr ns, v, B, h => by
    obtain ⟨e, a, ev, q⟩ := h
    refine ⟨e, a, ev, ?_⟩
    rcases q with ⟨o, q⟩ | q
    · exact .inl ⟨o, hI _ _ q trivial⟩
    · exact .inr q
  | .tup ds, v, B, h => by
    obtain ⟨e, a, vs, ev, q, r⟩ := h
    exact ⟨e, a, vs, ev, hI _ _ q trivial, Owns.taint hI hH ds vs [] r⟩
  | .lst .z ds, v, B, h => by
    obtain ⟨e, a, vs, ev, q, r⟩ := h
    exact ⟨e, a, vs, ev, hH _ _ q, Owns.taint hI hH ds vs [] r⟩
  | .lst .b ds, v, B, h => by
    obtain ⟨e, a, vs, ev, q, r⟩ := h
    exact ⟨e, a, vs, ev, q, Owns.taint hI hH ds vs [] r⟩
  | .lst .o ds, v, B, h => by
    obtain ⟨p, vs, B', ev, e, q, r⟩ := h
    exact ⟨p, vs, B', ev, e, q, Owns.taint hI hH ds vs B' r⟩
  | .dic .z ks ds, v, B, h => by
    obtain ⟨e, a, vs, ev, q, l, r⟩ := h
    exact ⟨e, a, vs, ev, Same.rd hH q, l, Owns.taint hI hH ds vs [] r⟩
  | .dic .b ks ds, v, B, h => by
    obtain ⟨e, a, vs, ev, q, l, r⟩ := h
    exact ⟨e, a, vs, ev, q, l, Owns.taint hI hH ds vs [] r⟩
  | .dic .o ks ds, v, B, h => by
    obtain ⟨p, vs, B', ev, e, q, l, r⟩ := h
    exact ⟨p, vs, B', ev, e, q, l, Owns.taint hI hH ds vs B' r⟩
  | .dit .z ks ds, v, B, h => by
    obtain ⟨e, a, vs, ev, q, l, r⟩ := h
    exact ⟨e, a, vs, ev, Same.rd hH q, l, Owns.taint hI hH ds vs [] r⟩
  | .dit .b ks ds, v, B, h => by
    obtain ⟨e, a, vs, ev, q, l, r⟩ := h
    exact ⟨e, a, vs, ev, q, l, Owns.taint hI hH ds vs [] r⟩
  | .dit .o ks ds, v, B, h => by
    obtain ⟨p, vs, B', ev, e, q, l, r⟩ := h
    exact ⟨p, vs, B', ev, e, q, l, Owns.taint hI hH ds vs B' r⟩
  | .obj .z c0 ks ds, v, B, h => by
    obtain ⟨e, a, dx, vs, ev, q, l, r⟩ := h
    exact ⟨e, a, dx, vs, ev, hH _ _ q, l, Owns.taint hI hH ds vs [] r⟩
  | .obj .b c0 ks ds, v, B, h => by
    obtain ⟨e, a, dx, vs, ev, q, l, r⟩ := h
    exact ⟨e, a, dx, vs, ev, q, l, Owns.taint hI hH ds vs [] r⟩
  | .obj .o c0 ks ds, v, B, h => by
    obtain ⟨p, dx, vs, B', ev, e, q, q2, l, r⟩ := h
    exact ⟨p, dx, vs, B', ev, e, q, q2, l, Owns.taint hI hH ds vs B' r⟩
theorem Owns.taint (hI : ∀ a o, S' a = some o → Imm o → S a = some o) (hH : Same S' H) : ∀ (ds : List D) (vs : List V) (B : List Addr), Owns K S' H ds vs B → Owns K S H (taints ds) vs B
  | [], vs, B, h => h
  | d :: ds, vs, B, h => by
    obtain ⟨v, vs', B1, B2, e1, e2, r, rs⟩ := h
    exact ⟨v, vs', B1, B2, e1, e2, Own.taint hI hH d v B1 r, Owns.taint hI hH ds vs' B2 rs⟩
end
mutual
/-- .. that looked at no held instance -/
theorem Own.taintL (hI : ∀ a o, S' a = some o → Imm o → S a = some o) (hO : ∀ a C dx fs, S' a = some (.ins C dx fs) → S a = some (.ins C dx fs)) (hH : Same S' H) : ∀ (d : D) (v : V) (B : List Addr), Own K S' H d v B → Own K S H (taintL d) v B
  | .non, v, B, h => h
  | .bl _, v, B, h => h
  | .int _, v, B, h => h
  | .str _, v, B, h => h
  | .xcp, v, B, h => h
  | .scr ns, v, B, h => by
    obtain ⟨e, a, ev, q⟩ := h
    refine ⟨e, a, ev, ?_⟩
    rcases q with ⟨o, q⟩ | q
    · exact .inl ⟨o, hI _ _ q trivial⟩
    · exact .inr q
  | .tup ds, v, B, h => by
    obtain ⟨e, a, vs, ev, q, r⟩ := h
    exact ⟨e, a, vs, ev, hI _ _ q trivial, Owns.taintL hI hO hH ds vs [] r⟩
  | .lst .z ds, v, B, h => by
    obtain ⟨e, a, vs, ev, q, r⟩ := h
    exact ⟨e, a, vs, ev, hH _ _ q, Owns.taintL hI hO hH ds vs [] r⟩
  | .lst .b ds, v, B, h => by
    obtain ⟨e, a, vs, ev, q, r⟩ := h
    exact ⟨e, a, vs, ev, q, Owns.taintL hI hO hH ds vs [] r⟩
  | .lst .o ds, v, B, h => by
    obtain ⟨p, vs, B', ev, e, q, r⟩ := h
    exact ⟨p, vs, B', ev, e, q, Owns.taintL hI hO hH ds vs B' r⟩
  | .dic .z ks ds, v, B, h => by
    obtain ⟨e, a, vs, ev, q, l, r⟩ := h
    exact ⟨e, a, vs, ev, Same.rd hH q, l, Owns.taintL hI hO hH ds vs [] r⟩
  | .dic .b ks ds, v, B, h => by
    obtain ⟨e, a, vs, ev, q, l, r⟩ := h
    exact ⟨e, a, vs, ev, q, l, Owns.taintL hI hO hH ds vs [] r⟩
  | .dic .o ks ds, v, B, h => by
    obtain ⟨p, vs, B', ev, e, q, l, r⟩ := h
    exact ⟨p, vs, B', ev, e, q, l, Owns.taintL hI hO hH ds vs B' r⟩
  | .dit .z ks ds, v, B, h => by
    obtain ⟨e, a, vs, ev, q, l, r⟩ := h
    exact ⟨e, a, vs, ev, Same.rd hH q, l, Owns.taintL hI hO hH ds vs [] r⟩
  | .dit .b ks ds, v, B, h => by
    obtain ⟨e, a, vs, ev, q, l, r⟩ := h
    exact ⟨e, a, vs, ev, q, l, Owns.taintL hI hO hH ds vs [] r⟩
  | .dit .o ks ds, v, B, h => by
    obtain ⟨p, vs, B', ev, e, q, l, r⟩ := h
    exact ⟨p, vs, B', ev, e, q, l, Owns.taintL hI hO hH ds vs B' r⟩
  | .obj .z c0 ks ds, v, B, h => by
    obtain ⟨e, a, dx, vs, ev, q, l, r⟩ := h
    exact ⟨e, a, dx, vs, ev, hO _ _ _ _ q, l, Owns.taintL hI hO hH ds vs [] r⟩
  | .obj .b c0 ks ds, v, B, h => by
    obtain ⟨e, a, dx, vs, ev, q, l, r⟩ := h
    exact ⟨e, a, dx, vs, ev, q, l, Owns.taintL hI hO hH ds vs [] r⟩
  | .obj .o c0 ks ds, v, B, h => by
    obtain ⟨p, dx, vs, B', ev, e, q, q2, l, r⟩ := h
    exact ⟨p, dx, vs, B', ev, e, q, q2, l, Owns.taintL hI hO hH ds vs B' r⟩
theorem Owns.taintL (hI : ∀ a o, S' a = some o → Imm o → S a = some o) (hO : ∀ a C dx fs, S' a = some (.ins C dx fs) → S a = some (.ins C dx fs)) (hH : Same S' H) : ∀ (ds : List D) (vs : List V) (B : List Addr), Owns K S' H ds vs B → Owns K S H (taintLs ds) vs B
  | [], vs, B, h => h
  | d :: ds, vs, B, h => by
    obtain ⟨v, vs', B1, B2, e1, e2, r, rs⟩ := h
    exact ⟨v, vs', B1, B2, e1, e2, Own.taintL hI hO hH d v B1 r, Owns.taintL hI hO hH ds vs' B2 rs⟩
end
theorem rdL (hL : ∀ a o, H a = some o → (∀ C dx fs, o ≠ .ins C dx fs) → S' a = some o) {a : Addr} {o : HO} (n : ∀ C dx fs, o ≠ .ins C dx fs) (h : Rd H a o) : Rd S' a o := by
  rcases h with h | ⟨u, h⟩
  · exact .inl (hL _ _ h n)
  · exact .inr ⟨u, hL _ _ h (fun _ _ _ z => nomatch z)⟩
mutual
/-- as a callee sees it: all is shared but the held instances -/
theorem Own.viewL (hS : Same S S') (hL : ∀ a o, H a = some o → (∀ C dx fs, o ≠ .ins C dx fs) → S' a = some o) : ∀ (d : D) (v : V) (B : List Addr), objZ d = true → Own K S H d v B → Own K S' H' (zz d) v []
  | .non, v, B, z, h => ⟨h.1, rfl⟩
  | .bl _, v, B, z, h => ⟨h.1, rfl⟩
  | .int _, v, B, z, h => ⟨h.1, rfl⟩
  | .str _, v, B, z, h => ⟨h.1, rfl⟩
  | .xcp, v, B, z, h => ⟨h.1, rfl⟩
  | .scr _, v, B, z, h => ⟨rfl, h.2.imp fun _ q => ⟨q.1, q.2.same hS⟩⟩
  | .tup ds, v, B, z, h => by
    obtain ⟨e, a, vs, ev, q, r⟩ := h
    exact ⟨rfl, a, vs, ev, hS _ _ q, Owns.viewL hS hL ds vs [] (by simpa [objZ] using z) r⟩
  | .lst f ds, v, B, z, h => by
    have zd : objZs ds = true := by simpa [objZ] using z
    cases f with
    | z =>
      obtain ⟨e, a, vs, ev, q, r⟩ := h
      exact ⟨rfl, a, vs, ev, hS _ _ q, Owns.viewL hS hL ds vs [] zd r⟩
    | b =>
      obtain ⟨e, a, vs, ev, q, r⟩ := h
      exact ⟨rfl, a, vs, ev, hL _ _ q (fun _ _ _ z => nomatch z), Owns.viewL hS hL ds vs [] zd r⟩
    | o =>
      obtain ⟨p, vs, B', ev, e, q, r⟩ := h
      exact ⟨rfl, p, vs, ev, hL _ _ q (fun _ _ _ z => nomatch z), Owns.viewL hS hL ds vs B' zd r⟩
  | .dic f ks ds, v, B, z, h => by
    have zd : objZs ds = true := by simpa [objZ] using z
    cases f with
    | z =>
      obtain ⟨e, a, vs, ev, q, l, r⟩ := h
      exact ⟨rfl, a, vs, ev, Same.rd hS q, l, Owns.viewL hS hL ds vs [] zd r⟩
    | b =>
      obtain ⟨e, a, vs, ev, q, l, r⟩ := h
      exact ⟨rfl, a, vs, ev, rdL hL (fun _ _ _ z => nomatch z) q, l, Owns.viewL hS hL ds vs [] zd r⟩
    | o =>
      obtain ⟨p, vs, B', ev, e, q, l, r⟩ := h
      exact ⟨rfl, p, vs, ev, .inl (hL _ _ q (fun _ _ _ z => nomatch z)), l, Owns.viewL hS hL ds vs B' zd r⟩
  | .dit f ks ds, v, B, z, h => by
    have zd : objZs ds = true := by simpa [objZ] using z
    cases f with
    | z =>
      obtain ⟨e, a, vs, ev, q, l, r⟩ := h
      exact ⟨rfl, a, vs, ev, Same.rd hS q, l, Owns.viewL hS hL ds vs [] zd r⟩
    | b =>
      obtain ⟨e, a, vs, ev, q, l, r⟩ := h
      exact ⟨rfl, a, vs, ev, rdL hL (fun _ _ _ z => nomatch z) q, l, Owns.viewL hS hL ds vs [] zd r⟩
    | o =>
      obtain ⟨p, vs, B', ev, e, q, l, r⟩ := h
      exact ⟨rfl, p, vs, ev, .inl (hL _ _ q (fun _ _ _ z => nomatch z)), l, Owns.viewL hS hL ds vs B' zd r⟩
  | .obj .z c0 ks ds, v, B, z, h => by
    obtain ⟨e, a, dx, vs, ev, q, l, r⟩ := h
    exact ⟨rfl, a, dx, vs, ev, hS _ _ q, l, Owns.viewL hS hL ds vs [] (by simpa [objZ] using z) r⟩
  | .obj .b c0 ks ds, v, B, z, h => by simp [objZ] at z
  | .obj .o c0 ks ds, v, B, z, h => by simp [objZ] at z
theorem Owns.viewL (hS : Same S S') (hL : ∀ a o, H a = some o → (∀ C dx fs, o ≠ .ins C dx fs) → S' a = some o) : ∀ (ds : List D) (vs : List V) (B : List Addr), objZs ds = true → Owns K S H ds vs B → Owns K S' H' (zzs ds) vs []
  | [], vs, B, z, h => ⟨h.1, rfl⟩
  | d :: ds, vs, B, z, h => by
    obtain ⟨v, vs', B1, B2, e1, e2, r, rs⟩ := h
    have zd : objZ d = true ∧ objZs ds = true := by simpa [objZs] using z
    exact ⟨v, vs', [], [], e1, rfl, Own.viewL hS hL d v B1 zd.1 r, Owns.viewL hS hL ds vs' B2 zd.2 rs⟩
end
mutual
/-- all shared: nothing is held, and only S is asked -/
theorem Own.ofZ : ∀ (d : D) (v : V) (B : List Addr), isZ d = true → Own K S H d v B → B = [] ∧ Own K S H' d v []
  | .non, v, B, z, h => ⟨h.2, h.1, rfl⟩
  | .bl _, v, B, z, h => ⟨h.2, h.1, rfl⟩
  | .int _, v, B, z, h => ⟨h.2, h.1, rfl⟩
  | .str _, v, B, z, h => ⟨h.2, h.1, rfl⟩
  | .xcp, v, B, z, h => ⟨h.2, h.1, rfl⟩
  | .scr _, v, B, z, h => ⟨h.1, rfl, h.2⟩
  | .tup ds, v, B, z, h => by
    obtain ⟨e, a, vs, ev, q, r⟩ := h
    exact ⟨e, rfl, a, vs, ev, q, (Owns.ofZ ds vs [] (by simpa [isZ] using z) r).2⟩
  | .lst .z ds, v, B, z, h => by
    obtain ⟨e, a, vs, ev, q, r⟩ := h
    exact ⟨e, rfl, a, vs, ev, q, (Owns.ofZ ds vs [] (by simpa [isZ] using z) r).2⟩
  | .lst .b ds, v, B, z, h => by simp [isZ] at z
  | .lst .o ds, v, B, z, h => by simp [isZ] at z
  | .dic .z ks ds, v, B, z, h => by
    obtain ⟨e, a, vs, ev, q, l, r⟩ := h
    exact ⟨e, rfl, a, vs, ev, q, l, (Owns.ofZ ds vs [] (by simpa [isZ] using z) r).2⟩
  | .dic .b ks ds, v, B, z, h => by simp [isZ] at z
  | .dic .o ks ds, v, B, z, h => by simp [isZ] at z
  | .dit .z ks ds, v, B, z, h => by
    obtain ⟨e, a, vs, ev, q, l, r⟩ := h
    exact ⟨e, rfl, a, vs, ev, q, l, (Owns.ofZ ds vs [] (by simpa [isZ] using z) r).2⟩
  | .dit .b ks ds, v, B, z, h => by simp [isZ] at z
  | .dit .o ks ds, v, B, z, h => by simp [isZ] at z
  | .obj .z c0 ks ds, v, B, z, h => by
    obtain ⟨e, a, dx, vs, ev, q, l, r⟩ := h
    exact ⟨e, rfl, a, dx, vs, ev, q, l, (Owns.ofZ ds vs [] (by simpa [isZ] using z) r).2⟩
  | .obj .b c0 ks ds, v, B, z, h => by simp [isZ] at z
  | .obj .o c0 ks ds, v, B, z, h => by simp [isZ] at z
theorem Owns.ofZ : ∀ (ds : List D) (vs : List V) (B : List Addr), isZs ds = true → Owns K S H ds vs B → B = [] ∧ Owns K S H' ds vs []
  | [], vs, B, z, h => ⟨h.2, h.1, rfl⟩
  | d :: ds, vs, B, z, h => by
    obtain ⟨v, vs', B1, B2, e1, e2, r, rs⟩ := h
    simp [isZs] at z
    obtain ⟨rfl, r'⟩ := Own.ofZ d v B1 z.1 r
    obtain ⟨rfl, rs'⟩ := Owns.ofZ ds vs' B2 z.2 rs
    exact ⟨e2, v, vs', [], [], e1, rfl, r', rs'⟩
end
mutual
/-- another exception is handled -/
theorem Own.requ {q : XQ} : ∀ (d : D) (v : V) (B : List Addr), noX d = true → Own K S H d v B → Own ⟨K.K, q⟩ S H d v B
  | .non, v, B, n, h => h
  | .bl _, v, B, n, h => h
  | .int _, v, B, n, h => h
  | .str _, v, B, n, h => h
  | .scr _, v, B, n, h => h
  | .xcp, v, B, n, h => by simp [noX] at n
  | .tup ds, v, B, n, h => by
    obtain ⟨e, a, vs, ev, q, r⟩ := h
    exact ⟨e, a, vs, ev, q, Owns.requ ds vs _ (by simpa [noX] using n) r⟩
  | .lst .z ds, v, B, n, h => by
    obtain ⟨e, a, vs, ev, q, r⟩ := h
    exact ⟨e, a, vs, ev, q, Owns.requ ds vs _ (by simpa [noX] using n) r⟩
  | .lst .b ds, v, B, n, h => by
    obtain ⟨e, a, vs, ev, q, r⟩ := h
    exact ⟨e, a, vs, ev, q, Owns.requ ds vs _ (by simpa [noX] using n) r⟩
  | .lst .o ds, v, B, n, h => by
    obtain ⟨e, a, vs, ev, q, q2, r⟩ := h
    exact ⟨e, a, vs, ev, q, q2, Owns.requ ds _ _ (by simpa [noX] using n) r⟩
  | .dic .z ks ds, v, B, n, h => by
    obtain ⟨e, a, vs, ev, q, l, r⟩ := h
    exact ⟨e, a, vs, ev, q, l, Owns.requ ds vs _ (by simpa [noX] using n) r⟩
  | .dic .b ks ds, v, B, n, h => by
    obtain ⟨e, a, vs, ev, q, l, r⟩ := h
    exact ⟨e, a, vs, ev, q, l, Owns.requ ds vs _ (by simpa [noX] using n) r⟩
  | .dic .o ks ds, v, B, n, h => by
    obtain ⟨p, vs, B', ev, e, q, l, r⟩ := h
    exact ⟨p, vs, B', ev, e, q, l, Owns.requ ds vs _ (by simpa [noX] using n) r⟩
  | .dit .z ks ds, v, B, n, h => by
    obtain ⟨e, a, vs, ev, q, l, r⟩ := h
    exact ⟨e, a, vs, ev, q, l, Owns.requ ds vs _ (by simpa [noX] using n) r⟩
  | .dit .b ks ds, v, B, n, h => by
    obtain ⟨e, a, vs, ev, q, l, r⟩ := h
    exact ⟨e, a, vs, ev, q, l, Owns.requ ds vs _ (by simpa [noX] using n) r⟩
  | .dit .o ks ds, v, B, n, h => by
    obtain ⟨p, vs, B', ev, e, q, l, r⟩ := h
    exact ⟨p, vs, B', ev, e, q, l, Owns.requ ds vs _ (by simpa [noX] using n) r⟩
  | .obj .z c ks ds, v, B, n, h => by
    obtain ⟨e, a, dx, vs, ev, q, l, r⟩ := h
    exact ⟨e, a, dx, vs, ev, q, l, Owns.requ ds vs _ (by simpa [noX] using n) r⟩
  | .obj .b c ks ds, v, B, n, h => by
    obtain ⟨e, a, dx, vs, ev, q, l, r⟩ := h
    exact ⟨e, a, dx, vs, ev, q, l, Owns.requ ds vs _ (by simpa [noX] using n) r⟩
  | .obj .o c ks ds, v, B, n, h => by
    obtain ⟨p, dx, vs, B', ev, e, q, q2, l, r⟩ := h
    exact ⟨p, dx, vs, B', ev, e, q, q2, l, Owns.requ ds vs _ (by simpa [noX] using n) r⟩
theorem Owns.requ {q : XQ} : ∀ (ds : List D) (vs : List V) (B : List Addr), noXs ds = true → Owns K S H ds vs B → Owns ⟨K.K, q⟩ S H ds vs B
  | [], vs, B, n, h => h
  | d :: ds, vs, B, n, h => by
    obtain ⟨v, vs', B1, B2, e1, e2, r, rs⟩ := h
    simp only [noXs, Bool.and_eq_true] at n
    exact ⟨v, vs', B1, B2, e1, e2, Own.requ d v B1 n.1 r, Owns.requ ds vs' B2 n.2 rs⟩
end
theorem Owns.length : ∀ (ds : List D) (vs : List V) (B : List Addr), Owns K S H ds vs B → ds.length = vs.length
  | [], vs, B, h => by rw [h.1]; rfl
  | d :: ds, vs, B, h => by
    obtain ⟨v, vs', B1, B2, e1, e2, r, rs⟩ := h
    rw [e1, List.length_cons, List.length_cons, Owns.length ds vs' B2 rs]
theorem Owns.append : ∀ (ds : List D) (vs : List V) (B : List Addr) (es : List D) (us : List V) (C : List Addr), Owns K S H ds vs B → Owns K S H es us C → Owns K S H (ds ++ es) (vs ++ us) (B ++ C)
  | [], vs, B, es, us, C, h, h' => by obtain ⟨rfl, rfl⟩ := h; exact h'
  | d :: ds, vs, B, es, us, C, h, h' => by
    obtain ⟨v, vs', B1, B2, e1, e2, r, rs⟩ := h
    subst e1 e2
    exact ⟨v, vs' ++ us, B1, B2 ++ C, rfl, by simp, r, Owns.append ds vs' B2 es us C rs h'⟩
theorem Owns.one {d : D} {v : V} {B : List Addr} (h : Own K S H d v B) : Owns K S H [d] [v] B := ⟨v, [], B, [], rfl, by simp, h, rfl, rfl⟩
/-- the item at a place -/
theorem Owns.get : ∀ (ds : List D) (vs : List V) (B : List Addr) (i : Nat) (d : D), Owns K S H ds vs B → ds[i]? = some d → ∃ v B1 B2 B3, vs[i]? = some v ∧ B = B1 ++ B2 ++ B3 ∧ Own K S H d v B2
  | [], vs, B, i, d, h, e => by simp at e
  | d0 :: ds, vs, B, 0, d, h, e => by
    obtain ⟨v, vs', B1, B2, e1, e2, r, rs⟩ := h
    simp at e
    subst e e1 e2
    exact ⟨v, [], B1, B2, rfl, by simp, r⟩
  | d0 :: ds, vs, B, i + 1, d, h, e => by
    obtain ⟨v, vs', B1, B2, e1, e2, r, rs⟩ := h
    obtain ⟨u, C1, C2, C3, q1, q2, q3⟩ := Owns.get ds vs' B2 i d rs (by simpa using e)
    subst e1 e2 q2
    exact ⟨u, B1 ++ C1, C2, C3, by simpa using q1, by simp, q3⟩
end EV
namespace EV
open PySem L2
/-! ### results -/
inductive R (α : Type) where
  | ok (a : α) | ex (x : Exc) | st
def R.bind {α β : Type} : R α → (α → R β) → R β
  | .ok a, f => f a | .ex x, _ => .ex x | .st, _ => .st
instance : Monad R where
  pure := R.ok
  bind := R.bind
@[simp] theorem R.ok_bind {α β : Type} (a : α) (f : α → R β) : (R.ok a >>= f) = f a := rfl
@[simp] theorem R.ex_bind {α β : Type} (x : Exc) (f : α → R β) : (R.ex x >>= f) = R.ex x := rfl
@[simp] theorem R.st_bind {α β : Type} (f : α → R β) : ((R.st : R α) >>= f) = R.st := rfl
@[simp] theorem R.pure_eq {α : Type} (a : α) : (pure a : R α) = R.ok a := rfl
def R.of {α : Type} : Option α → R α
  | some a => .ok a | none => .st
@[simp] theorem R.of_some {α : Type} (a : α) : R.of (some a) = .ok a := rfl
def guardR (b : Bool) : R Unit := if b = true then .ok () else .st
@[simp] theorem guardR_t : guardR true = .ok () := rfl

/-! ### operations on data -/
abbrev Env := List (Option D)
mutual
def toP : D → Option PyData
  | .non => some .none | .bl b => some (.bool b) | .int i => some (.int i) | .str s => some (.str s)
  | .tup ds => (toPs ds).map .tuple | .lst _ ds => (toPs ds).map .list
  | _ => none
def toPs : List D → Option (List PyData)
  | [] => some []
  | d :: ds => match toP d, toPs ds with
    | some p, some ps => some (p :: ps)
    | _, _ => none
end
def memK {κ : Type} [DecidableEq κ] (q : κ) (ks : List κ) : Bool := decide (q ∈ ks)
def lookK {κ α : Type} [DecidableEq κ] : List κ → List α → κ → Option α
  | k :: ks, d :: ds, q => if k = q then some d else lookK ks ds q
  | _, _, _ => none
def setL {κ α : Type} [DecidableEq κ] (q : κ) (x : α) : List κ → List α → List α
  | k :: ks, d :: ds => if k = q then x :: setL q x ks ds else d :: setL q x ks ds
  | _, _ => []
/-- d[q] = x: the keys, the items -/
def putKs {κ : Type} [DecidableEq κ] (ks : List κ) (q : κ) : List κ := if q ∈ ks then ks else ks ++ [q]
def putDs {κ α : Type} [DecidableEq κ] (ks : List κ) (ds : List α) (q : κ) (x : α) : List α := if q ∈ ks then setL q x ks ds else ds ++ [x]
def keyOf : D → Option Key
  | .int i => some (.inl i) | .str s => some (.inr s) | _ => none
def keysOf : List D → Option (List Key)
  | [] => some []
  | d :: ds => match keyOf d, keysOf ds with
    | some k, some ks => some (k :: ks)
    | _, _ => none
def cutD {α : Type} (xs : List α) (lo hi : Option Int) : List α := (xs.drop (HT.sIx xs.length 0 lo)).take (HT.sIx xs.length xs.length hi - HT.sIx xs.length 0 lo)
inductive BinK where
  | add | sub | mul | fdiv | mod | pow | xor
  deriving DecidableEq
inductive CmpK where
  | eq | ne | lt | le | gt | ge | isin | notin
  deriving DecidableEq
def mulOk (i j : Int) : Bool := decide ((-(2 ^ 64) < i ∧ i < 2 ^ 64) ∨ (-(2 ^ 64) < j ∧ j < 2 ^ 64))
def divOk (j : Int) : Bool := decide (0 < j ∧ j < 1073741824)
def powOk (i j : Int) : Bool := decide (0 ≤ j ∧ j ≤ 1000000 ∧ i.natAbs < 2 ^ 64)
def lenOk (n : Nat) : Bool := decide (n ≤ sizeLine)
def dBin : BinK → D → D → Option D
  | .add, .int i, .int j => some (.int (i + j))
  | .add, .str s, .str t => if lenOk (s.length + t.length) then some (.str (s ++ t)) else none
  | .add, .lst _ xs, .lst _ ys => if lenOk (xs.length + ys.length) then some (.lst .o (xs ++ ys)) else none
  | .add, .tup xs, .tup ys => if lenOk (xs.length + ys.length) && cleans xs && cleans ys then some (.tup (zzs (xs ++ ys))) else none
  | .sub, .int i, .int j => some (.int (i - j))
  | .mul, .int i, .int j => if mulOk i j then some (.int (i * j)) else none
  | .mul, .lst _ xs, .int k => if isZs xs && decide (-(2 ^ 63) ≤ k ∧ k < 2 ^ 63) && lenOk (xs.length * k.toNat) then some (.lst .o (List.replicate k.toNat xs).flatten) else none
  | .fdiv, .int i, .int j => if divOk j then some (.int (i / j)) else none
  | .mod, .int i, .int j => if decide (0 < j) then some (.int (i % j)) else none
  | .pow, .int i, .int j => if powOk i j then some (.int (i ^ j.toNat)) else none
  | .xor, .int i, .int j => some (.int (Builtin.bitXor i j))
  | _, _, _ => none
def dEq (a b : D) : Option Bool := match toP a, toP b with
  | some p, some q => if SeqAt.shaped p && SeqAt.shaped q then some (PyData.eqv p q) else none
  | _, _ => none
def dIn (a b : D) : Option Bool := match b with
  | .lst _ ds => match toP a, toPs ds with
    | some p, some ps => if SeqAt.shaped p && SeqAt.shaped (.list ps) then some (ps.any fun z => PyData.eqv z p) else none
    | _, _ => none
  | .dic _ ks ds => (keyOf a).map fun k => (lookK ks ds k).isSome
  | .dit _ ks ds => match a with
    | .tup es => (keysOf es).map fun k => (lookK ks ds k).isSome
    | _ => none
  | _ => none
def dCmp : CmpK → D → D → Option D
  | .eq, a, b => (dEq a b).map fun r => .bl r
  | .ne, a, b => (dEq a b).map fun r => .bl (!r)
  | .lt, .int i, .int j => some (.bl (decide (i < j)))
  | .le, .int i, .int j => some (.bl (decide (i ≤ j)))
  | .gt, .int i, .int j => some (.bl (decide (j < i)))
  | .ge, .int i, .int j => some (.bl (decide (j ≤ i)))
  | .isin, a, b => (dIn a b).map fun r => .bl r
  | .notin, a, b => (dIn a b).map fun r => .bl (!r)
  | _, _, _ => none
def dIx : D → D → Option D
  | .lst _ ds, .int i => atI ds i
  | .tup ds, .int i => atI ds i
  | .scr ns, .int i => (atI ns i).map .int
  | .dic _ ks ds, a => (keyOf a).bind fun k => lookK ks ds k
  | .dit _ ks ds, .tup es => (keysOf es).bind fun k => lookK ks ds k
  | _, _ => none
def dInt? : D → Option Int
  | .int i => some i | _ => none
def dCut : D → Option Int → Option Int → Option D
  | .lst _ ds, lo, hi => some (.lst .o (cutD ds lo hi))
  | _, _, _ => none
def dTru : D → Option Bool
  | .non => some false | .bl b => some b | .int i => some (i != 0)
  | .str s => if lenOk s.length then some ((s.length : Int) != 0) else none
  | .lst _ ds => some !ds.isEmpty | .tup ds => some !ds.isEmpty
  | _ => none
/-- built-in calls -/
inductive BK where
  | len | abs | int | list | tuple | sorted
  deriving DecidableEq
def tyName : D → String
  | .non => "NoneType" | .bl _ => "bool" | .int _ => "int" | .str _ => "str" | .scr _ => "list" | .tup _ => "tuple" | .lst _ _ => "list" | .dic _ _ _ => "dict" | .dit _ _ _ => "dict" | .obj _ _ _ _ => "?" | .xcp => "?"
def sortIns (x : Int) : List Int → List Int
  | [] => [x]
  | y :: ys => if x ≤ y then x :: y :: ys else y :: sortIns x ys
def sortI : List Int → List Int
  | [] => []
  | x :: xs => sortIns x (sortI xs)
def intsOf : List D → Option (List Int)
  | [] => some []
  | .int i :: ds => (intsOf ds).map (i :: ·)
  | _ => none
def kintsOf : List Key → Option (List Int)
  | [] => some []
  | .inl i :: ds => (kintsOf ds).map (i :: ·)
  | _ => none
def dB : BK → D → Option D
  | .len, .lst _ ds => some (.int ds.length)
  | .len, .tup ds => some (.int ds.length)
  | .len, .scr ns => some (.int ns.length)
  | .len, .str s => if lenOk s.length then some (.int s.length) else none
  | .abs, .int i => some (.int (if i < 0 then -i else i))
  | .int, .int i => some (.int i)
  | .int, .bl b => some (.int (if b then 1 else 0))
  | .list, .lst _ ds => some (.lst .o ds)
  | .list, .tup ds => some (.lst .o ds)
  | .tuple, .lst _ ds => if cleans ds then some (.tup (zzs ds)) else none
  | .tuple, .tup ds => some (.tup ds)
  | .sorted, .lst _ ds => (intsOf ds).bind fun ns => some (.lst .o ((sortI ns).map .int))
  | .sorted, .dic _ ks _ => (kintsOf ks).bind fun ns => if ns.length < 64 then some (.lst .o ((sortI ns).map .int)) else none
  | _, _ => none
def dIsi (ty : String) (d : D) : Option D := match d with
  | .obj _ _ _ _ => none
  | .xcp => none
  | .dit _ _ _ => none
  | .scr _ => none
  | d => (kitB (tyName d) ty).map fun b => .bl b

/-! ### the skeleton of a body -/
inductive Tg where
  | name (i : Nat)
  | tup (ts : List Nat)
  deriving DecidableEq
def Tg.slots0 : Tg → Bool
  | .name i => decide (i = 0) | .tup is => decide (0 ∈ is)
mutual
inductive C where
  | slot (i : Nat)
  | non | bl (b : Bool) | int (i : Int) | str (s : Str)
  | bin (op : BinK) (a b : C)
  | neg (a : C)
  | cmp (op : CmpK) (a b : C)
  | chain (op op' : CmpK) (a b c : C)
  | isN (neg : Bool) (a : C)
  | and (es : Cs) | or (es : Cs) | not (a : C)
  | ite (c : T) (a b : C)
  | tup (es : Cs) | lst (es : Cs) | dic | dit | dic1 (k v : C)
  | ix (a b : C)
  | cut (a : C) (lo hi : Co)
  | blt (b : BK) (a : C)
  | isi (ty : String) (a : C)
  | call (f : Nat) (es : Cs)
  | comp (it : It) (tg : Tg) (own : List Nat) (c : To) (e : C)
  | dcomp (it : It) (tg : Tg) (own : List Nat) (k e : C)
  | sset (it : It) (tg : Tg) (own : List Nat) (e : C)
  | mn (a b : C)
  | flt (c : C) (i : Nat) (t : T)
  | fld (c n : Str) (a : C)
  | ccon (c n : Str) (i : Int)
  | isC (c : Str) (a : C)
  | make (c : Str) (f : Nat) (es : Cs)
  | prop (c n : Str) (f : Nat) (a : C)
  | meth (c n : Str) (f : Nat) (a : C) (es : Cs)
  | smeth (c n : Str) (f : Nat) (es : Cs)
  | inO (neg : Bool) (c : Str) (f : Nat) (a b : C)
  | eqO (neg : Bool) (c : Str) (f : Nat) (a b : C)
  | inR (neg : Bool) (a : C) (lo : Co) (hi : C)
  | isX (c : Str) (i : Nat)
  | xfld (c n : Str) (i : Nat)
inductive Cs where
  | nil | cons (c : C) (cs : Cs)
inductive Co where
  | none | some (c : C)
inductive T where
  | v (c : C) | b (c : C) | not (t : T) | and (ts : Ts) | or (ts : Ts)
inductive Ts where
  | nil | cons (t : T) (ts : Ts)
inductive To where
  | none | some (t : T)
inductive It where
  | r1 (a : C) | r2 (a b : C)
  | seq (c : C)
  | enum (c : C)
end
/-- the body of a try: no slot is stored -/
inductive TB where
  | nil | ret (e : C) | expr (e : C) (b : TB) | ife (t : T) (a b : TB)
mutual
inductive S where
  | asg (t : Tg) (e : C)
  | mvs (i j : Nat)
  | aug (i : Nat) (neg : Bool) (e : C)
  | app (i : Nat) (path : Cs) (e : C)
  | put (i : Nat) (path : Cs) (k e : C)
  | augp (i : Nat) (path : Cs) (k : C) (neg : Bool) (e : C)
  | expr (e : C)
  | ife (t : T) (a b : Ss)
  | whl (n : Nat) (t : T) (b : Ss)
  | fr (it : It) (tg : Tg) (b : Ss)
  | ret (e : C) | retn | retmv (i : Nat)
  | brk | cont | pass
  | frz (i : Nat)
  | apop (i j : Nat) (k : C)
  | each (i g : Nat) (e : C)
  | sfld (i : Nat) (c n : Str) (e : C)
  | raise (c : Str) (f : Nat) (es : Cs)
  | tryx (b : TB) (i : Nat) (c : Str) (h : Ss)
  | rev (i : Nat)
inductive Ss where
  | nil | cons (s : S) (ss : Ss)
end
mutual
/-- slot 0 is never stored -/
def okS : S → Bool
  | .asg t _ => !t.slots0 | .mvs i _ => decide (i ≠ 0) | .aug i _ _ => decide (i ≠ 0)
  | .ife _ a b => okSs a && okSs b | .whl _ _ b => okSs b | .fr _ tg b => !tg.slots0 && okSs b
  | .each _ g _ => decide (g ≠ 0) | .tryx _ i _ h => decide (i ≠ 0) && okSs h
  | _ => true
def okSs : Ss → Bool
  | .nil => true | .cons s ss => okS s && okSs ss
end
/-! ### what it does -/
def get (env : Env) (i : Nat) : R D := match env[i]? with
  | some (some d) => .ok d
  | _ => .st
def wipeE (env : Env) : List Nat → Env
  | [] => env
  | v :: vs => (wipeE env vs).set v none
def setAll : List Nat → List D → Env → R Env
  | [], [], env => .ok env
  | i :: is, d :: ds, env => if i < env.length then setAll is ds (env.set i (some d)) else .st
  | _, _, _ => .st
def setTg (t : Tg) (d : D) (env : Env) : R Env := match t with
  | .name i => if decide (i < env.length) then .ok (env.set i (some d)) else .st
  | .tup is => match d with
    | .tup ds => setAll is ds env
    | _ => .st
def Tg.slots : Tg → List Nat
  | .name i => [i] | .tup is => is
def Tg.within (t : Tg) (own : List Nat) : Bool := t.slots.all fun i => own.contains i
/-- the items that a loop over a thing that stays takes -/
def seqOf (lv : Bool) : D → Option (List D)
  | .tup ds => if lv || isZs ds then some ds else none
  | .lst .b ds => if lv then some ds else none
  | .lst _ ds => if cleans ds then some (zzs ds) else none
  | _ => none
/-- the items behind their numbers -/
def enumD : Nat → List D → List D
  | _, [] => []
  | i, d :: ds => .tup [.int i, d] :: enumD (i + 1) ds
def rngOk : Int → Bool
  | .ofNat n => Nat.ble n 4611686018427387903
  | .negSucc n => Nat.ble n 4611686018427387903
theorem rngOk_iff {i : Int} : rngOk i = true ↔ -(2 ^ 62) ≤ i ∧ i < 2 ^ 62 := by
  cases i with
  | ofNat n =>
    show Nat.ble n 4611686018427387903 = true ↔ _
    rw [Nat.ble_eq]
    show _ ↔ -(2 ^ 62) ≤ (n : Int) ∧ (n : Int) < 2 ^ 62
    omega
  | negSucc n =>
    show Nat.ble n 4611686018427387903 = true ↔ _
    rw [Nat.ble_eq]
    omega
def rangeD (lo : Int) (n : Nat) : List D := (List.range n).map fun (k : Nat) => .int (lo + k)
/-- a def: its number of parameters, what it does -/
structure FD where
  n : Nat
  sem : List D → R D
/-- the tables: what the defs do; which class stands under which; the exception that is handled -/
structure Tab where
  fd : Nat → FD
  sub : Str → Str → Option Bool
  xsub : Str → Str → Option Bool
  ξ : Option Exc
instance : CoeFun Tab (fun _ => Nat → FD) := ⟨Tab.fd⟩
section
variable (Φ : Tab)
/-- a def called with looked-at things gives back what must not be kept -/
def backD (ds : List D) (d : D) : D := if objZs ds then taintL d else taint d
def callD (f : FD) (ds : List D) : R D := if ds.length = f.n then (if cleans ds then f.sem (zzs ds) else (f.sem (zzs ds)).bind fun d => .ok (backD ds d)) else .st
/-- an __init__ called: what it makes of the new instance -/
def makeD (f : FD) (ds : List D) : R D := if ds.length + 1 = f.n then (if cleans ds then f.sem (zzs ds) else (f.sem (zzs ds)).bind fun d => .ok (backD ds d)) else .st
def isObj (c : Str) : D → Bool
  | .obj _ c' _ _ => decide (c' = c)
  | _ => false
def isObjN (c n : Str) : D → Bool
  | .obj _ c' ks _ => decide (c' = c) && !memK n ks
  | _ => false
def isObjT (c : Str) : D → Bool
  | .obj _ c' _ _ => decide (c' = c)
  | .tup _ => true
  | _ => false
def dFld (c n : Str) : D → Option D
  | .obj _ c' ks ds => if c' = c then lookK ks ds n else none
  | _ => none
def dIsC (sub : Str → Str → Option Bool) (c : Str) : D → Option D
  | .obj _ c' _ _ => (sub c' c).map .bl
  | .xcp => none | .dit _ _ _ => none | .scr _ => none
  | _ => (sub c c).map fun _ => .bl false
def dNeg (neg : Bool) : D → R D
  | .bl b => .ok (.bl (if neg then !b else b))
  | _ => .st
/-- the exception that a slot holds -/
def xcpO (ξ : Option Exc) : D → R Exc
  | .xcp => R.of ξ
  | _ => .st
/-- a comprehension's turns -/
def compL (turn : D → R (Option D)) : List D → List D → R (List D)
  | [], acc => .ok acc
  | d :: ds, acc => (turn d).bind fun r => match r with
    | none => compL turn ds acc
    | some x => if clean x && decide (acc.length < sizeLine) then compL turn ds (acc ++ [x]) else .st
def dcompL (turn : D → R (Key × D)) : List D → List Key → List D → R (List Key × List D)
  | [], ks, ds => .ok (ks, ds)
  | d :: is, ks, ds => (turn d).bind fun r => if clean r.2 && decide (ks.length < sizeLine) && !memK r.1 ks then dcompL turn is (ks ++ [r.1]) (ds ++ [r.2]) else .st
/-- the ints of a set, fewer than 64 -/
def ssetL (turn : D → R Int) : List D → List Int → R (List Int)
  | [], acc => .ok acc
  | d :: ds, acc => (turn d).bind fun i => if acc.length < 63 then ssetL turn ds (if i ∈ acc then acc else i :: acc) else .st
/-- the items of a fresh list that pass a test -/
def fltL (test : D → R Bool) : List D → List D → R (List D)
  | [], acc => .ok acc
  | d :: ds, acc => (test d).bind fun b => fltL test ds (if b then acc ++ [d] else acc)
def noEx {α : Type} : R α → R α
  | .ex _ => .st | r => r
mutual
def evE : C → Env → R D
  | .slot i, env => (get env i).bind fun d => .ok (bb d)
  | .non, _ => .ok .non | .bl b, _ => .ok (.bl b) | .int i, _ => .ok (.int i) | .str s, _ => .ok (.str s)
  | .bin op a b, env => (evE a env).bind fun x => (evE b env).bind fun y => R.of (dBin op x y)
  | .neg a, env => (evE a env).bind fun x => (R.of (dInt? x)).bind fun i => .ok (.int (-i))
  | .cmp op a b, env => (evE a env).bind fun x => (evE b env).bind fun y => R.of (dCmp op x y)
  | .chain op op' a b c, env => (evE a env).bind fun x => (evE b env).bind fun y => (R.of (dCmp op x y)).bind fun r => match r with
    | .bl true => (evE c env).bind fun z => R.of (dCmp op' y z)
    | .bl false => .ok (.bl false)
    | _ => .st
  | .isN n a, env => (evE a env).bind fun x => match x with
    | .non => .ok (.bl !n)
    | _ => .ok (.bl n)
  | .and es, env => evAnd es env
  | .or es, env => evOr es env
  | .not a, env => (evE a env).bind fun x => match x with
    | .bl b => .ok (.bl !b)
    | _ => .st
  | .ite c a b, env => (evT c env).bind fun t => if t then evE a env else evE b env
  | .tup es, env => (evEs es env).bind fun ds => if cleans ds && lenOk ds.length then .ok (.tup (zzs ds)) else .st
  | .lst es, env => (evEs es env).bind fun ds => if lenOk ds.length then .ok (.lst .o ds) else .st
  | .dic, _ => .ok (.dic .o [] [])
  | .dit, _ => .ok (.dit .o [] [])
  | .dic1 k v, env => (evE k env).bind fun x => (evE v env).bind fun y => (R.of (keyOf x)).bind fun q => if clean y then .ok (.dic .o [q] [y]) else .st
  | .ix a b, env => (evE a env).bind fun x => (evE b env).bind fun y => R.of (dIx x y)
  | .cut a lo hi, env => (evE a env).bind fun x => (evO lo env).bind fun l => (evO hi env).bind fun h => R.of (dCut x l h)
  | .blt b a, env => (evE a env).bind fun x => R.of (dB b x)
  | .isi ty a, env => (evE a env).bind fun x => R.of (dIsi ty x)
  | .call f es, env => (evEs es env).bind fun ds => callD (Φ f) ds
  | .comp it tg own c e, env => (evIt it true env).bind fun ds => if !tg.within own then .st else
      (compL (fun d => noEx ((setTg tg d (wipeE env own)).bind fun env' => (evTo c env').bind fun b => if b then (evE e env').bind fun x => .ok (some x) else .ok none)) ds []).bind fun xs => .ok (.lst .o xs)
  | .dcomp it tg own k e, env => (evIt it true env).bind fun ds => if !tg.within own then .st else
      (dcompL (fun d => noEx ((setTg tg d (wipeE env own)).bind fun env' => (evE k env').bind fun x => (R.of (keyOf x)).bind fun q => (evE e env').bind fun y => .ok (q, y))) ds [] []).bind fun r => .ok (.dic .o r.1 r.2)
  | .sset it tg own e, env => (evIt it true env).bind fun ds => if !tg.within own then .st else
      (ssetL (fun d => noEx ((setTg tg d (wipeE env own)).bind fun env' => (evE e env').bind fun x => R.of (dInt? x))) ds []).bind fun xs => .ok (.lst .o ((sortI xs).map .int))
  | .mn a b, env => (evE a env).bind fun x => (evE b env).bind fun y => (R.of (dInt? x)).bind fun i => (R.of (dInt? y)).bind fun j => .ok (.int (if j < i then j else i))
  | .flt c i t, env => (evE c env).bind fun x => match x with
    | .lst .o ds => if cleans ds && decide (i < env.length) && decide (ds.length ≤ sizeLine) then (fltL (fun d => noEx ((setTg (.name i) (bb d) (wipeE env [i])).bind fun env' => evT t env')) ds []).bind fun es => .ok (.lst .o es) else .st
    | _ => .st
  | .fld c n a, env => (evE a env).bind fun x => R.of (dFld c n x)
  | .ccon _ _ i, _ => .ok (.int i)
  | .isC c a, env => (evE a env).bind fun x => R.of (dIsC Φ.sub c x)
  | .make _ f es, env => (evEs es env).bind fun ds => makeD (Φ f) ds
  | .prop c _ f a, env => (evE a env).bind fun x => if isObj c x then noEx (callD (Φ f) [x]) else .st
  | .meth c n f a es, env => (evE a env).bind fun x => if isObjN c n x then (evEs es env).bind fun ds => callD (Φ f) (x :: ds) else .st
  | .smeth _ _ f es, env => (evEs es env).bind fun ds => callD (Φ f) ds
  | .inO n c f a b, env => (evE a env).bind fun x => (evE b env).bind fun y => if isObj c y then (noEx (callD (Φ f) [y, x])).bind fun r => dNeg n r else .st
  | .eqO n c f a b, env => (evE a env).bind fun x => (evE b env).bind fun y => if isObj c x && (if n then isObj c y else isObjT c y) then (noEx (callD (Φ f) [x, y])).bind fun r => dNeg n r else .st
  | .inR n a lo hi, env => (evE a env).bind fun x => (evO lo env).bind fun l => (evE hi env).bind fun y => (R.of (dInt? x)).bind fun i => (R.of (dInt? y)).bind fun j => .ok (.bl (if n then !decide (l.getD 0 ≤ i ∧ i < j) else decide (l.getD 0 ≤ i ∧ i < j)))
  | .isX c i, env => (get env i).bind fun d => (xcpO Φ.ξ d).bind fun x => (R.of (Φ.xsub x.c c)).bind fun b => if memK ("__class__" : Str) x.ks then .st else .ok (.bl b)
  | .xfld c n i, env => (get env i).bind fun d => (xcpO Φ.ξ d).bind fun x => if x.c = c then R.of (lookK x.ks x.ds n) else .st
def evEs : Cs → Env → R (List D)
  | .nil, _ => .ok []
  | .cons c cs, env => (evE c env).bind fun d => (evEs cs env).bind fun ds => .ok (d :: ds)
/-- a path's keys, the last one first; they are reckoned from the first one -/
def evP : Cs → Env → R (List D)
  | .nil, _ => .ok []
  | .cons c cs, env => (evP cs env).bind fun ds => (noEx (evE c env)).bind fun d => .ok (d :: ds)
def evO : Co → Env → R (Option Int)
  | .none, _ => .ok none
  | .some c, env => (evE c env).bind fun x => (R.of (dInt? x)).bind fun i => .ok (some i)
def evTo : To → Env → R Bool
  | .none, _ => .ok true
  | .some c, env => evT c env
def evT : T → Env → R Bool
  | .v c, env => (evE c env).bind fun x => R.of (dTru x)
  | .b c, env => (evE c env).bind fun x => match x with
    | .bl b => .ok b
    | _ => .st
  | .not a, env => (evT a env).bind fun b => .ok !b
  | .and es, env => evTA es env
  | .or es, env => evTO es env
def evAnd : Cs → Env → R D
  | .nil, _ => .ok (.bl true)
  | .cons c cs, env => (evE c env).bind fun x => match x with
    | .bl true => evAnd cs env
    | .bl false => .ok (.bl false)
    | _ => .st
def evOr : Cs → Env → R D
  | .nil, _ => .ok (.bl false)
  | .cons c cs, env => (evE c env).bind fun x => match x with
    | .bl false => evOr cs env
    | .bl true => .ok (.bl true)
    | _ => .st
def evTA : Ts → Env → R Bool
  | .nil, _ => .ok true
  | .cons c cs, env => (evT c env).bind fun b => if b then evTA cs env else .ok false
def evTO : Ts → Env → R Bool
  | .nil, _ => .ok false
  | .cons c cs, env => (evT c env).bind fun b => if b then .ok true else evTO cs env
def evIt : It → Bool → Env → R (List D)
  | .r1 a, lv, env => (evE a env).bind fun x => (R.of (dInt? x)).bind fun i => if rngOk i then .ok (rangeD 0 i.toNat) else .st
  | .r2 a b, lv, env => (evE a env).bind fun x => (R.of (dInt? x)).bind fun i => (evE b env).bind fun y => (R.of (dInt? y)).bind fun j => if rngOk i && rngOk j then .ok (rangeD i (j - i).toNat) else .st
  | .seq c, lv, env => (evE c env).bind fun x => R.of (seqOf lv x)
  | .enum c, lv, env => (evE c env).bind fun x => (R.of (seqOf lv x)).bind fun ds => if isZs ds then .ok (enumD 0 ds) else .st
end
/-! ### statements -/
/-- an item of a held thing, and the thing with another item there (paths: the last key first) -/
def stepO (e k : D) : Option D := match e, k with
  | .lst .o ds, .int i => atI ds i
  | .dic .o ks ds, k => (keyOf k).bind fun q => lookK ks ds q
  | .dit .o ks ds, .tup es => (keysOf es).bind fun q => lookK ks ds q
  | _, _ => none
def putO (e k x : D) : D := match e, k with
  | .lst .o ds, .int i => match ixN ds.length i with
    | some j => .lst .o (ds.set j x)
    | none => e
  | .dic .o ks ds, k => match keyOf k with
    | some q => .dic .o ks (setL q x ks ds)
    | none => e
  | .dit .o ks ds, .tup es => match keysOf es with
    | some q => .dit .o ks (setL q x ks ds)
    | none => e
  | e, _ => e
def getO (d : D) : List D → Option D
  | [] => some d
  | k :: ks => (getO d ks).bind fun e => stepO e k
def setO (d : D) : List D → D → D
  | [], x => x
  | k :: ks, x => match getO d ks with
    | some e => setO d ks (putO e k x)
    | none => d
/-- e[k] = x of a held thing -/
def storeO (e k x : D) : Option D := match e, k with
  | .lst .o ds, .int i => (ixN ds.length i).map fun j => .lst .o (ds.set j x)
  | .dic .o ks ds, k => (keyOf k).bind fun q => if ks.length < sizeLine then some (.dic .o (putKs ks q) (putDs ks ds q x)) else none
  | .dit .o ks ds, .tup es => (keysOf es).bind fun q => if ks.length < sizeLine then some (.dit .o (putKs ks q) (putDs ks ds q x)) else none
  | _, _ => none
def appO (e x : D) : Option D := match e with
  | .lst .o ds => if ds.length < sizeLine then some (.lst .o (ds ++ [x])) else none
  | _ => none
/-- an item taken out -/
def popO (e : D) (n : Int) : Option (D × D) := match e with
  | .lst .o ds => (ixN ds.length n).bind fun m => (ds[m]?).bind fun x => if isZ x && rngOk n then some (x, .lst .o (ds.eraseIdx m)) else none
  | _ => none
def eachO (x : D) (d : D) : Option D := match d with
  | .lst .o ds => if ds.all fun t => (appO t x).isSome then some (.lst .o (ds.map fun t => (appO t x).getD t)) else none
  | _ => none
inductive Out where
  | nx (env : Env) | rt (d : D) | bk (env : Env) | ct (env : Env)
def R.nx (r : R Out) (f : Env → R Out) : R Out := r.bind fun o => match o with
  | .nx env => f env
  | o => .ok o
def forL (body : D → Env → R Out) : List D → Env → R Out
  | [], env => .ok (.nx env)
  | d :: ds, env => (body d env).bind fun o => match o with
    | .nx env' => forL body ds env'
    | .ct env' => forL body ds env'
    | .bk env' => .ok (.nx env')
    | .rt x => .ok (.rt x)
def whileN (test : Env → R Bool) (body : Env → R Out) : Nat → Env → R Out
  | 0, _ => .st
  | n + 1, env => (test env).bind fun b => if b then (body env).bind fun o => (match o with
    | .nx env' => whileN test body n env'
    | .ct env' => whileN test body n env'
    | .bk env' => .ok (.nx env')
    | .rt x => .ok (.rt x)) else .ok (.nx env)
/-- the held thing in slot i, changed at a path by f -/
def atO (env : Env) (i : Nat) (path : List D) (f : D → Option D) : R Env :=
  (get env i).bind fun d => (R.of ((getO d path).bind f)).bind fun e => .ok (env.set i (some (setO d path e)))
def evB : TB → Env → R Out
  | .nil, env => .ok (.nx env)
  | .ret e, env => (evE Φ e env).bind fun d => .ok (.rt d)
  | .expr e b, env => (evE Φ e env).bind fun _ => evB b env
  | .ife t a b, env => (evT Φ t env).bind fun c => if c then (evB a env).nx fun env' => evB b env' else evB b env
def Tab.ht (x : Exc) : Tab := { Φ with ξ := some x }
def noXE : Env → Bool
  | [] => true
  | some d :: env => noX d && noXE env
  | none :: env => noXE env
def outX (i : Nat) : Out → R Out
  | .nx e => if noXE (e.set i none) then .ok (.nx (e.set i none)) else .st
  | .rt d => if noX d then .ok (.rt d) else .st
  | _ => .st
end
mutual
def evS : Tab → S → Env → R Out
  | Φ, .asg t e, env => (evE Φ e env).bind fun d => match t with
    | .name i => if clean d && decide (i < env.length) then .ok (.nx (env.set i (some d))) else .st
    | t => if isZ d then (setTg t d env).bind fun env' => .ok (.nx env') else .st
  | Φ, .mvs i j, env => (get env j).bind fun d => if decide (i < env.length) && decide (i ≠ j) then .ok (.nx ((env.set j none).set i (some d))) else .st
  | Φ, .aug i n e, env => (get env i).bind fun d => (evE Φ e env).bind fun y => (R.of (dInt? d)).bind fun a => (R.of (dInt? y)).bind fun b => .ok (.nx (env.set i (some (.int (if n then a - b else a + b)))))
  | Φ, .app i path e, env => (evP Φ path env).bind fun ks => (noEx (evE Φ e env)).bind fun x => if clean x then (atO env i ks fun t => appO t x).bind fun env' => .ok (.nx env') else .st
  | Φ, .put i path k e, env => (evE Φ e env).bind fun x => (evP Φ path env).bind fun ks => (noEx (evE Φ k env)).bind fun q => if clean x then (atO env i ks fun t => storeO t q x).bind fun env' => .ok (.nx env') else .st
  | Φ, .augp i path k n e, env => (evP Φ path env).bind fun ks => (noEx (evE Φ k env)).bind fun q => (get env i).bind fun d => (R.of ((getO d ks).bind fun t => stepO t q)).bind fun o => (noEx (evE Φ e env)).bind fun y =>
      (R.of (dInt? o)).bind fun a => (R.of (dInt? y)).bind fun b => (atO env i ks fun t => storeO t q (.int (if n then a - b else a + b))).bind fun env' => .ok (.nx env')
  | Φ, .expr e, env => (evE Φ e env).bind fun _ => .ok (.nx env)
  | Φ, .ife t a b, env => (evT Φ t env).bind fun c => if c then evSs Φ a env else evSs Φ b env
  | Φ, .whl n t b, env => whileN (evT Φ t) (evSs Φ b) n env
  | Φ, .fr it tg b, env => (evIt Φ it false env).bind fun ds => forL (fun d env => (setTg tg d env).bind fun env' => evSs Φ b env') ds env
  | Φ, .ret e, env => (evE Φ e env).bind fun d => .ok (.rt d)
  | Φ, .retn, _ => .ok (.rt .non)
  | Φ, .retmv i, env => (get env i).bind fun d => .ok (.rt d)
  | Φ, .brk, env => .ok (.bk env)
  | Φ, .cont, env => .ok (.ct env)
  | Φ, .pass, env => .ok (.nx env)
  | Φ, .frz i, env => (get env i).bind fun d => .ok (.nx (env.set i (some (zz d))))
  | Φ, .apop i j k, env => (noEx (evE Φ k env)).bind fun q => (R.of (dInt? q)).bind fun n => (get env j).bind fun d => (get env i).bind fun e => (R.of (popO d n)).bind fun r => (R.of (appO e r.1)).bind fun e' =>
      if decide (i ≠ j) then .ok (.nx ((env.set j (some r.2)).set i (some e'))) else .st
  | Φ, .each i g e, env => (get env i).bind fun d => (noEx (evE Φ e ((env.set i none).set g none))).bind fun x => (R.of (eachO x d)).bind fun d' =>
      if isZ x && decide (g < env.length) && decide (g ≠ i) then .ok (.nx ((env.set i (some d')).set g none)) else .st
  | Φ, .sfld i c n e, env => (evE Φ e env).bind fun d => (get env i).bind fun o => match o with
    | .obj .o c' ks ds => if decide (c' = c) && clean d && decide (ks.length < 1000) then .ok (.nx (env.set i (some (.obj .o c (putKs ks n) (putDs ks ds n d))))) else .st
    | _ => .st
  | Φ, .raise c f es, env => (evEs Φ es env).bind fun ds => if decide (ds.length + 1 = (Φ f).n) && (flats ds).isSome && decide (ds.length ≤ 1000) then (noEx ((Φ f).sem ds)).bind fun o => (match o with
    | .obj .z c' ks es' => if decide (c' = c) && (flats es').isSome && decide (ks.length = es'.length) then .ex ⟨c, ks, es'⟩ else .st
    | _ => .st) else .st
  | Φ, .tryx b i c h, env => match evB Φ b env with
    | .ex x => (match Φ.xsub x.c c with
      | some true => if noXE env && decide (i < env.length) then (noEx (evSs (Φ.ht x) h (env.set i (some .xcp)))).bind fun o => outX i o else .st
      | some false => .ex x
      | none => .st)
    | r => r
  | Φ, .rev i, env => (get env i).bind fun d => match d with
    | .lst .o ds => if isZs ds then .ok (.nx (env.set i (some (.lst .o ds.reverse)))) else .st
    | _ => .st
def evSs : Tab → Ss → Env → R Out
  | Φ, .nil, env => .ok (.nx env)
  | Φ, .cons s ss, env => (evS Φ s env).nx fun env' => evSs Φ ss env'
end
section
variable (Φ : Tab)
/-- a def's body, run over its arguments -/
def runF (nslots : Nat) (body : Ss) (ds : List D) : R D := (evSs Φ body (ds.map some ++ List.replicate (nslots - ds.length) none)).bind fun o => match o with
  | .nx _ => .ok .non
  | .rt d => .ok d
  | _ => .st
/-- an __init__'s body: what becomes of the instance -/
def runI (c : Str) (nslots : Nat) (body : Ss) (ds : List D) : R D := (evSs Φ body (some (.obj .o c [] []) :: (ds.map some ++ List.replicate (nslots - (ds.length + 1)) none))).bind fun o => match o with
  | .nx env => get env 0
  | _ => .st
end
end EV
namespace EV
open PySem L2
/-! ### how states grow -/
structure Fut (S0 H0 S H : Hp) : Prop where
  hp : Same H0 H
  st : Same S0 S
  sub : Same S H
  new : ∀ a o, S a = some o → S0 a = some o ∨ H0 a = none ∨ (H0 a = some o ∧ Imm o)
theorem Same.none {H H' : Hp} (s : Same H H') {a : Addr} (h : H' a = none) : H a = none := Same.free s h
theorem Fut.refl {S H : Hp} (s : Same S H) : Fut S H S H := ⟨Same.refl _, Same.refl _, s, fun _ _ e => .inl e⟩
theorem Fut.trans {S0 H0 S1 H1 S2 H2 : Hp} (f : Fut S0 H0 S1 H1) (g : Fut S1 H1 S2 H2) : Fut S0 H0 S2 H2 := by
  refine ⟨f.hp.trans g.hp, f.st.trans g.st, g.sub, fun a o e => ?_⟩
  rcases g.new a o e with z | z | ⟨z, i⟩
  · exact f.new a o z
  · exact .inr (.inl (Same.none f.hp z))
  · cases h : H0 a with
    | none => exact .inr (.inl rfl)
    | some u =>
      have e2 := f.hp _ _ h
      rw [z] at e2
      cases e2
      exact .inr (.inr ⟨rfl, i⟩)
structure Fresh (H0 S : Hp) (B : List Addr) : Prop where
  nd : B.Nodup
  new : ∀ p ∈ B, H0 p = none ∧ S p = none
theorem Fresh.nil {H0 S : Hp} : Fresh H0 S [] := ⟨List.nodup_nil, fun _ z => nomatch z⟩
theorem notImm {H : Hp} {p : Addr} {o : HO} (t : Hld H p) (e : H p = some o) : ¬ Imm o := by
  obtain ⟨u, t, m⟩ := t
  rw [t] at e
  cases e
  intro z
  cases o <;> first | exact m | exact z
/-- held things stay out of S -/
theorem out_keep {S H S' H' : Hp} (f : Fut S H S' H') {p : Addr} (t : Hld H p) (o : S p = none) : S' p = none := by
  cases e : S' p with
  | none => rfl
  | some u =>
    exfalso
    rcases f.new p u e with z | z | ⟨z, i⟩
    · rw [o] at z; cases z
    · (obtain ⟨_, t, _⟩ := t; rw [t] at z; cases z)
    · exact notImm t z i
variable {K : Kx} {S S' H H' S0 H0 S1 H1 : Hp}
theorem Own.fut (f : Fut S H S' H') {d : D} {v : V} {B : List Addr} (h : Own K S H d v B) : Own K S' H' d v B := by
  refine Own.keep f.st d v B (.inr f.hp) (fun p hp => ?_) h
  (obtain ⟨_, t, _⟩ := Own.there d v B h p hp; rw [t, f.hp _ _ t])
theorem Owns.fut (f : Fut S H S' H') {d : List D} {v : List V} {B : List Addr} (h : Owns K S H d v B) : Owns K S' H' d v B := by
  refine Owns.keep f.st d v B (.inr f.hp) (fun p hp => ?_) h
  (obtain ⟨_, t, _⟩ := Owns.there d v B h p hp; rw [t, f.hp _ _ t])
theorem Fresh.fut (f : Fut S H S' H') {B : List Addr} (r : Fresh H0 S B) (t : ∀ p ∈ B, Hld H p) : Fresh H0 S' B :=
  ⟨r.nd, fun p hp => ⟨(r.new p hp).1, out_keep f (t p hp) (r.new p hp).2⟩⟩
theorem Fresh.back (s : Same H0 H) {B : List Addr} (r : Fresh H S B) : Fresh H0 S B := ⟨r.nd, fun p hp => ⟨Same.none s (r.new p hp).1, (r.new p hp).2⟩⟩
/-- two evaluated one after the other -/
theorem Fresh.app (f : Fut S1 H1 S' H') (s : Same H0 H1) {B B' : List Addr} (r : Fresh H0 S1 B) (t : ∀ p ∈ B, Hld H1 p)
    (r' : Fresh H1 S' B') : Fresh H0 S' (B ++ B') := by
  have r1 := r.fut f t
  refine ⟨List.nodup_append.mpr ⟨r.nd, r'.nd, fun a ha b hb e => ?_⟩, fun p hp => ?_⟩
  · subst e
    have := (r'.new a hb).1
    (obtain ⟨_, t, _⟩ := t a ha; rw [t] at this; cases this)
  · rcases List.mem_append.mp hp with hp | hp
    · exact r1.new p hp
    · exact (r'.back s).new p hp
theorem Fresh.sub {B B' : List Addr} (r : Fresh H0 S B) (h : B'.Sublist B) : Fresh H0 S B' := ⟨r.nd.sublist h, fun p hp => r.new p (h.subset hp)⟩

/-! ### the frame -/
structure Sta (K : Kz) (S H : Hp) (σ : St) (env : Env) (As : Nat → List Addr) : Prop where
  hx : Hd K S
  sub : Same S H
  len : σ.length = env.length
  val : ∀ i d, env[i]? = some (some d) → ∃ v, σ[i]? = some (some v) ∧ Own K S H d v (As i)
  emp : ∀ i, (∀ d, env[i]? ≠ some (some d)) → As i = []
  nd : ∀ i, (As i).Nodup
  dj : ∀ i j, i ≠ j → ∀ p ∈ As i, p ∉ As j
  out : ∀ i, ∀ p ∈ As i, S p = none
section
variable {K : Kz} {σ : St} {env : Env} {As : Nat → List Addr}
theorem Sta.there (s : Sta K S H σ env As) (i : Nat) : ∀ p ∈ As i, Hld H p := by
  intro p hp
  by_cases h : ∃ d, env[i]? = some (some d)
  · obtain ⟨d, h⟩ := h
    obtain ⟨v, _, o⟩ := s.val i d h
    exact Own.there d v _ o p hp
  · rw [s.emp i (fun d e => h ⟨d, e⟩)] at hp
    cases hp
theorem Sta.fut (s : Sta K S H σ env As) (f : Fut S H S' H') : Sta K S' H' σ env As :=
  ⟨s.hx.same f.st, f.sub, s.len, fun i d e => let ⟨v, h, o⟩ := s.val i d e; ⟨v, h, o.fut f⟩, s.emp, s.nd, s.dj, fun i p hp => out_keep f (s.there i p hp) (s.out i p hp)⟩

end
/-! ### what is wanted behind an expression -/
def KE (K : Kx) (S H : Hp) (d : D) (Q : VK) : Prop := ∀ v S' H' B, Fut S H S' H' → Own K S' H' d v B → Fresh H S' B → Q v H'
def KEs (K : Kx) (S H : Hp) (ds : List D) (Q : List V → Hp → Prop) : Prop := ∀ vs S' H' B, Fut S H S' H' → Owns K S' H' ds vs B → Fresh H S' B → Q vs H'
def KB (S H : Hp) (b : Bool) (Q : Bool → Hp → Prop) : Prop := ∀ S' H', Fut S H S' H' → Q b H'
/-- the exception x comes out at (v, od), its dict new since H0 -/
def xr (K : PySem.W.Frag) (x : Exc) (v : Value) (od : Option Addr) (H0 H : Hp) : Prop := XqOk K H x v od ∧ ∀ dd, od = some dd → H0 dd = none
theorem xr.back {K : PySem.W.Frag} {x : Exc} {v : Value} {od : Option Addr} {H0 H1 H : Hp} (h : xr K x v od H1 H) (s : Same H0 H1) : xr K x v od H0 H := ⟨h.1, fun dd e => Same.none s (h.2 dd e)⟩
variable {XR : PySem.W.Frag}
def KX (XR : PySem.W.Frag) (H : Hp) (x : Exc) (E : XK) : Prop := ∀ v od H', Same H H' → xr XR x v od H H' → E v od H'
/-- the outcome r meets what is wanted: P of a value, E of an exception -/
def Kont {α : Type} (XR : PySem.W.Frag) (E : XK) (H : Hp) (r : R α) (P : α → Prop) : Prop := match r with
  | .ok d => P d
  | .ex x => KX XR H x E
  | .st => False
variable {E : XK}
theorem KX.fut {x : Exc} (k : KX XR H x E) (s : Same H H') : KX XR H' x E := fun v od H2 s2 h => k v od H2 (s.trans s2) (h.back s)
theorem KE.fut {d : D} {Q : VK} (k : KE K S H d Q) (f : Fut S H S' H') : KE K S' H' d Q := fun v S2 H2 B g o r => k v S2 H2 B (f.trans g) o (r.back f.hp)
theorem KEs.fut {d : List D} {Q : List V → Hp → Prop} (k : KEs K S H d Q) (f : Fut S H S' H') : KEs K S' H' d Q := fun v S2 H2 B g o r => k v S2 H2 B (f.trans g) o (r.back f.hp)
theorem KB.fut {d : Bool} {Q : Bool → Hp → Prop} (k : KB S H d Q) (f : Fut S H S' H') : KB S' H' d Q := fun S2 H2 g => k S2 H2 (f.trans g)
theorem Kont.imp {α : Type} {r : R α} {P P' : α → Prop} (k : Kont XR E H r P) (s : Same H H') (h : ∀ a, r = .ok a → P a → P' a) : Kont XR E H' r P' := by
  cases r with
  | ok a => exact h a rfl k
  | ex x => exact k.fut s
  | st => exact k
theorem Kont.bind {α β : Type} {r : R α} {f : α → R β} {P : β → Prop} {P' : α → Prop} (k : Kont XR E H (r.bind f) P) (s : Same H H') (h : ∀ a, r = .ok a → Kont XR E H (f a) P → P' a) : Kont XR E H' r P' := by
  cases r with
  | ok a => exact h a rfl k
  | ex x => exact KX.fut (show KX XR H x E from k) s
  | st => exact k
theorem Kont.of {α : Type} {o : Option α} {P : α → Prop} (k : Kont XR E H (R.of o) P) : ∃ a, o = some a ∧ P a := by
  cases o with
  | none => exact k.elim
  | some a => exact ⟨a, rfl, k⟩
theorem Kont.ofBind {α β : Type} {o : Option α} {f : α → R β} {P : β → Prop} (k : Kont XR E H ((R.of o).bind f) P) : ∃ a, o = some a ∧ Kont XR E H (f a) P := by
  cases o with
  | none => exact k.elim
  | some a => exact ⟨a, rfl, k⟩
/-! ### a flat result -/
theorem KE.int {i : Int} {Q : VK} (k : KE K S0 H0 (.int i) Q) (f : Fut S0 H0 S H) : Q (.int i) H := k _ S H [] f ⟨rfl, rfl⟩ .nil
theorem KE.bl {i : Bool} {Q : VK} (k : KE K S0 H0 (.bl i) Q) (f : Fut S0 H0 S H) : Q (.bl i) H := k _ S H [] f ⟨rfl, rfl⟩ .nil
theorem KE.str {i : Str} {Q : VK} (k : KE K S0 H0 (.str i) Q) (f : Fut S0 H0 S H) : Q (.str i) H := k _ S H [] f ⟨rfl, rfl⟩ .nil
theorem KE.non {Q : VK} (k : KE K S0 H0 .non Q) (f : Fut S0 H0 S H) : Q .non H := k _ S H [] f ⟨rfl, rfl⟩ .nil
theorem Fut.upd {p : Addr} {o : HO} (f : Fut S0 H0 S H) (n : H p = none) : Fut S0 H0 S (L2.upd H p o) := by
  have s : Same H (L2.upd H p o) := fun b u e => by rw [upd_ne (ne_of_none e n)]; exact e
  exact ⟨f.hp.trans s, f.st, f.sub.trans s, f.new⟩
theorem same_upd {p : Addr} {o : HO} (n : H p = none) : Same H (upd H p o) := fun b u e => by rw [upd_ne (ne_of_none e n)]; exact e
/-- a new list -/
theorem KE.newL {ds : List D} {vs : List V} {B : List Addr} {Q : VK} (k : KE K S0 H0 (.lst .o ds) Q) (f : Fut S0 H0 S H) (o : Owns K S H ds vs B) (r : Fresh H0 S B) {p : Addr} (n : H p = none) : Q (.ref p) (upd H p (.lst vs)) := by
  have t := Owns.there ds vs B o
  have g : Fut S H S (upd H p (.lst vs)) := (Fut.refl f.sub).upd n
  refine k _ S _ (p :: B) (f.upd n) ⟨p, vs, B, rfl, rfl, upd_same, o.fut g⟩ ⟨List.nodup_cons.mpr ⟨fun z => ?_, r.nd⟩, fun q hq => ?_⟩
  · (obtain ⟨_, t, _⟩ := t p z; rw [t] at n; cases n)
  · rcases List.mem_cons.mp hq with rfl | hq
    · exact ⟨Same.none f.hp n, Same.none f.sub n⟩
    · exact r.new q hq
/-- S with more -/
noncomputable def more (S H : Hp) (B : List Addr) : Hp := fun a => if a ∈ B then H a else S a
theorem more_in {B : List Addr} {p : Addr} (h : p ∈ B) : more S H B p = H p := by unfold more; rw [if_pos h]
theorem more_out {B : List Addr} {p : Addr} (h : p ∉ B) : more S H B p = S p := by unfold more; rw [if_neg h]
theorem Fut.more {B : List Addr} (f : Fut S0 H0 S H) (r : Fresh H0 S B) : Fut S0 H0 (more S H B) H ∧ Same S (EV.more S H B) := by
  have s : Same S (EV.more S H B) := fun a o e => by
    by_cases h : a ∈ B
    · rw [(r.new a h).2] at e; cases e
    · rw [more_out h]; exact e
  refine ⟨⟨f.hp, f.st.trans s, fun a o e => ?_, fun a o e => ?_⟩, s⟩
  · by_cases h : a ∈ B
    · rw [more_in h] at e; exact e
    · rw [more_out h] at e; exact f.sub a o e
  · by_cases h : a ∈ B
    · exact .inr (.inl (r.new a h).1)
    · rw [more_out h] at e; exact f.new a o e
/-- a new tuple of things that are shared from now on -/
theorem KE.newT {ds : List D} {vs : List V} {B : List Addr} {Q : VK} (k : KE K S0 H0 (.tup (zzs ds)) Q) (f : Fut S0 H0 S H) (o : Owns K S H ds vs B) (c : cleans ds = true) (r : Fresh H0 S B) {p : Addr} (n : H p = none) : Q (.ref p) (upd H p (.tup vs)) := by
  obtain ⟨g, s⟩ := f.more r
  have oz : Owns K (more S H B) H (zzs ds) vs [] := Owns.freeze s ds vs B c (fun p hp => more_in hp) o
  have g2 := g.upd (o := .tup vs) n
  have n2 : more S H B p = none := Same.none g.sub n
  have s3 : Same (more S H B) (upd (more S H B) p (.tup vs)) := same_upd n2
  have f3 : Fut S0 H0 (upd (more S H B) p (.tup vs)) (upd H p (.tup vs)) := by
    refine ⟨g2.hp, g2.st.trans s3, fun a u e => ?_, fun a u e => ?_⟩
    · by_cases h : a = p
      · subst h; rw [upd_same] at e ⊢; exact e
      · rw [upd_ne h] at e ⊢; exact g.sub a u e
    · by_cases h : a = p
      · subst h; exact .inr (.inl (Same.none f.hp n))
      · rw [upd_ne h] at e; exact g.new a u e
  exact k _ _ _ [] f3 ⟨rfl, p, vs, rfl, upd_same, Owns.keep s3 (zzs ds) vs [] (.inr (same_upd n)) (fun _ z => nomatch z) oz⟩ .nil
end EV
namespace EV
open PySem L2
variable {K : Kx} {S S' H H' S0 H0 S1 H1 : Hp}
/-! ### what the operations ask of values -/
def rStrAdd : R2 := fun x y H Q => ∃ i j, x = .str i ∧ y = .str j ∧ i.length + j.length ≤ sizeLine ∧ Q (.str (i ++ j)) H
def rCatS (K : PySem.W.Frag) : R2 := fun x y H Q => ∃ l b xs zs, x = .ref l ∧ y = .ref b ∧ H l = some (.lst xs) ∧ H b = some (.lst zs) ∧ xs.length + zs.length ≤ sizeLine ∧ ∀ p, H p = none → Q (.ref p) (upd H p (.lst (xs ++ zs)))
def rRepS (K : PySem.W.Frag) : R2 := fun x y H Q => ∃ l k xs, x = .ref l ∧ y = .int k ∧ H l = some (.lst xs) ∧ -(2 ^ 63) ≤ k ∧ k < 2 ^ 63 ∧ xs.length * k.toNat ≤ sizeLine ∧
  ∀ p, H p = none → Q (.ref p) (upd H p (.lst (List.replicate k.toNat xs).flatten))
def rBin (K : PySem.W.Frag) : BinK → R2
  | .add => fun x y H Q => rI0 (fun i j => .int (i + j)) x y H Q ∨ rStrAdd x y H Q ∨ rCatS K x y H Q ∨ rCatA K x y H Q
  | .sub => rI0 fun i j => .int (i - j)
  | .mul => fun x y H Q => rI CMul (fun i j => .int (i * j)) x y H Q ∨ rRepS K x y H Q
  | .fdiv => rI CDiv fun i j => .int (i / j)
  | .mod => rI (fun _ j => 0 < j) fun i j => .int (i % j)
  | .pow => rI CPow fun i j => .int (i ^ j.toNat)
  | .xor => rI0 fun i j => .int (Builtin.bitXor i j)
def rDIn (neg : Bool) : R2 := fun x y H Q => ∃ a o, y = .ref a ∧ DGet H a x o ∧ Q (.bl (if neg then !o.isSome else o.isSome)) H
def rCmp (K : PySem.W.Frag) : CmpK → R2
  | .eq => rEqD K
  | .ne => rNeD K
  | .lt => rI0 fun i j => .bl (decide (i < j))
  | .le => rI0 fun i j => .bl (decide (i ≤ j))
  | .gt => rI0 fun i j => .bl (decide (j < i))
  | .ge => rI0 fun i j => .bl (decide (j ≤ i))
  | .isin => fun x y H Q => rInD K x y H Q ∨ rDIn false x y H Q
  | .notin => fun x y H Q => rNotInD K x y H Q ∨ rDIn true x y H Q
def rIxA (K : PySem.W.Frag) : R2 := fun x y H Q => rIxL K x y H Q ∨ rIxT K x y H Q ∨ ∃ a v, x = .ref a ∧ DGet H a y (some v) ∧ Q v H
def rSlA (K : PySem.W.Frag) : V → Option Int → Option Int → Hp → VK → Prop := fun x lo hi H Q => rSlL K x lo hi H Q ∨ rSlT K x lo hi H Q
def rB (K : PySem.W.Frag) : BK → List V → Hp → VK → Prop
  | .len => fun xs H Q => (∃ x n, xs = [x] ∧ LenV K x H n ∧ Q (.int n) H)
  | .abs => fun xs H Q => ∃ i, xs = [.int i] ∧ Q (.int (if i < 0 then -i else i)) H
  | .int => fun xs H Q => (∃ i, xs = [.int i] ∧ Q (.int i) H) ∨ ∃ k, xs = [.bl k] ∧ Q (.int (if k then 1 else 0)) H
  | .list => fun xs H Q => ∃ p ys, xs = [.ref p] ∧ (SqL K H p ys ∨ SqT K H p ys) ∧ ∀ l, H l = none → Q (.ref l) (upd H l (.lst ys))
  | .tuple => fun xs H Q => ∃ p ys, xs = [.ref p] ∧ ((SqL K H p ys ∧ ∀ l, H l = none → Q (.ref l) (upd H l (.tup ys))) ∨ (SqT K H p ys ∧ Q (.ref p) H))
  | .sorted => fun xs H Q => rSortedI K xs H Q ∨ (∃ (a : Addr) (kvs : List (Key × V)) (ks : List Int), xs = [.ref a] ∧ Rd H a (.dK kvs) ∧ kvs.map (·.1) = ks.map Sum.inl ∧ ks.length < 64 ∧
    ∀ (ys : List Int) (p : Addr), ys.Perm ks → ys.Pairwise (· ≤ ·) → H p = none → Q (.ref p) (upd H p (.lst (ys.map V.int))))

/-! ### data read off values -/
mutual
theorem Own.dp (s : Same S H) : ∀ (d : D) (v : V) (B : List Addr) (p : PyData), toP d = some p → Own K S H d v B → Dp K H v p
  | .non, v, B, p, e, h => by cases e; rw [h.1]; exact .non
  | .bl _, v, B, p, e, h => by cases e; rw [h.1]; exact .bl _
  | .int _, v, B, p, e, h => by cases e; rw [h.1]; exact .int _
  | .str _, v, B, p, e, h => by cases e; rw [h.1]; exact .str _
  | .scr _, v, B, p, e, h => nomatch e
  | .tup ds, v, B, p, e, h => by
    obtain ⟨_, a, vs, rfl, q, r⟩ := h
    obtain ⟨ps, e1, rfl⟩ := Option.map_eq_some_iff.mp e
    exact .tup (.inl (.inl (s _ _ q))) (Owns.dp s ds vs [] ps e1 r)
  | .lst .z ds, v, B, p, e, h => by
    obtain ⟨_, a, vs, rfl, q, r⟩ := h
    obtain ⟨ps, e1, rfl⟩ := Option.map_eq_some_iff.mp e
    exact .lst (.inl (.inl (s _ _ q))) (Owns.dp s ds vs [] ps e1 r)
  | .lst .b ds, v, B, p, e, h => by
    obtain ⟨_, a, vs, rfl, q, r⟩ := h
    obtain ⟨ps, e1, rfl⟩ := Option.map_eq_some_iff.mp e
    exact .lst (.inl (.inl q)) (Owns.dp s ds vs [] ps e1 r)
  | .lst .o ds, v, B, p, e, h => by
    obtain ⟨a, vs, B', rfl, _, q, r⟩ := h
    obtain ⟨ps, e1, rfl⟩ := Option.map_eq_some_iff.mp e
    exact .lst (.inl (.inl q)) (Owns.dp s ds vs B' ps e1 r)
  | .dic _ _ _, v, B, p, e, h => nomatch e
  | .dit _ _ _, v, B, p, e, h => nomatch e
  | .obj _ _ _ _, v, B, p, e, h => nomatch e
  | .xcp, v, B, p, e, h => nomatch e
theorem Owns.dp (s : Same S H) : ∀ (ds : List D) (vs : List V) (B : List Addr) (ps : List PyData), toPs ds = some ps → Owns K S H ds vs B → DpAll K H vs ps
  | [], vs, B, ps, e, h => by cases e; rw [h.1]; exact .nil
  | d :: ds, vs, B, ps, e, h => by
    obtain ⟨v, vs', B1, B2, rfl, _, r, rs⟩ := h
    simp only [toPs] at e
    split at e
    · rename_i p0 ps0 h1 h2
      cases e
      exact .cons (Own.dp s d v B1 p0 h1 r) (Owns.dp s ds vs' B2 ps0 h2 rs)
    · cases e
end
theorem Own.key {d : D} {v : V} {B : List Addr} {k : Key} (e : keyOf d = some k) (h : Own K S H d v B) : v = kV k := by
  cases d <;> cases e
  · exact h.1
  · exact h.1
theorem Owns.keys : ∀ {ds : List D} {vs : List V} {B : List Addr} {ks : List Key}, keysOf ds = some ks → Owns K S H ds vs B → vs = ks.map kV
  | [], vs, B, ks, e, h => by cases e; rw [h.1]; rfl
  | d :: ds, vs, B, ks, e, h => by
    obtain ⟨v, vs', B1, B2, rfl, _, r, rs⟩ := h
    simp only [keysOf] at e
    split at e
    · rename_i p0 ps0 h1 h2
      cases e
      rw [Own.key h1 r, Owns.keys h2 rs]; rfl
    · cases e
theorem lookK_val {κ : Type} [DecidableEq κ] : ∀ (ks : List κ) (ds : List D) (vs : List V) (B : List Addr) (k : κ), ks.length = vs.length → Owns K S H ds vs B →
    match lookK ks ds k with
    | some d => ∃ v B1 B2 B3, valV (ks.zip vs) k = some v ∧ B = B1 ++ B2 ++ B3 ∧ Own K S H d v B2
    | none => valV (ks.zip vs) k = none
  | [], ds, vs, B, k, l, h => by cases ds <;> rfl
  | q :: ks, [], vs, B, k, l, h => by rw [h.1] at l; cases l
  | q :: ks, d :: ds, vs, B, k, l, h => by
    obtain ⟨v, vs', B1, B2, rfl, rfl, r, rs⟩ := h
    simp only [lookK, List.zip_cons_cons]
    by_cases e : q = k
    · rw [if_pos e]
      exact ⟨v, [], B1, B2, valV_pos (by exact e), by simp, r⟩
    · rw [if_neg e]
      have ih := lookK_val ks ds vs' B2 k (by simpa using l) rs
      have e2 : valV ((q, v) :: ks.zip vs') k = valV (ks.zip vs') k := valV_neg (by exact e)
      rw [e2]
      split
      · rename_i d' e'
        rw [e'] at ih
        obtain ⟨u, C1, C2, C3, q1, q2, q3⟩ := ih
        exact ⟨u, B1 ++ C1, C2, C3, q1, by simp [q2], q3⟩
      · rename_i e'
        rw [e'] at ih
        exact ih
theorem lookK_some {κ : Type} [DecidableEq κ] {ks : List κ} {ds : List D} {vs : List V} {B : List Addr} {k : κ} {d : D} (l : ks.length = vs.length) (h : Owns K S H ds vs B) (e : lookK ks ds k = some d) :
    ∃ v B1 B2 B3, valV (ks.zip vs) k = some v ∧ B = B1 ++ B2 ++ B3 ∧ Own K S H d v B2 := by
  have := lookK_val ks ds vs B k l h
  rw [e] at this
  exact this
theorem lookK_is {κ : Type} [DecidableEq κ] {ks : List κ} {ds : List D} {vs : List V} {B : List Addr} {k : κ} (l : ks.length = vs.length) (h : Owns K S H ds vs B) : (valV (ks.zip vs) k).isSome = (lookK ks ds k).isSome := by
  have := lookK_val ks ds vs B k l h
  split at this
  · rename_i d e
    obtain ⟨v, _, _, _, q, _⟩ := this
    rw [q, e]; rfl
  · rename_i e
    rw [this, e]; rfl
/-- a list or a tuple, whatever its mark -/
theorem Own.seqL (s : Same S H) {f : Fl} {ds : List D} {v : V} {B : List Addr} (h : Own K S H (.lst f ds) v B) : ∃ a vs B', v = .ref a ∧ H a = some (.lst vs) ∧ Owns K S H ds vs B' ∧ B'.Sublist B := by
  cases f with
  | z => obtain ⟨_, a, vs, e, q, r⟩ := h; exact ⟨a, vs, [], e, s _ _ q, r, List.nil_sublist _⟩
  | b => obtain ⟨_, a, vs, e, q, r⟩ := h; exact ⟨a, vs, [], e, q, r, List.nil_sublist _⟩
  | o => obtain ⟨a, vs, B', e, eB, q, r⟩ := h; subst eB; exact ⟨a, vs, B', e, q, r, List.sublist_cons_self _ _⟩
theorem Own.seqT (s : Same S H) {ds : List D} {v : V} {B : List Addr} (h : Own K S H (.tup ds) v B) : ∃ a vs, v = .ref a ∧ H a = some (.tup vs) ∧ Owns K S H ds vs [] := by
  obtain ⟨_, a, vs, e, q, r⟩ := h
  exact ⟨a, vs, e, s _ _ q, r⟩
theorem Own.dicR (s : Same S H) {f : Fl} {ks : List Key} {ds : List D} {v : V} {B : List Addr} (h : Own K S H (.dic f ks ds) v B) : ∃ a vs B', v = .ref a ∧ Rd H a (.dK (ks.zip vs)) ∧ KL ks vs ∧ Owns K S H ds vs B' ∧ B'.Sublist B := by
  cases f with
  | z => obtain ⟨_, a, vs, e, q, l, r⟩ := h; exact ⟨a, vs, [], e, Same.rd s q, l, r, List.nil_sublist _⟩
  | b => obtain ⟨_, a, vs, e, q, l, r⟩ := h; exact ⟨a, vs, [], e, q, l, r, List.nil_sublist _⟩
  | o => obtain ⟨a, vs, B', e, eB, q, l, r⟩ := h; subst eB; exact ⟨a, vs, B', e, .inl q, l, r, List.sublist_cons_self _ _⟩
theorem Own.ditR (s : Same S H) {f : Fl} {ks : List (List Key)} {ds : List D} {v : V} {B : List Addr} (h : Own K S H (.dit f ks ds) v B) : ∃ a vs B', v = .ref a ∧ Rd H a (.dT (ks.zip vs)) ∧ KL ks vs ∧ Owns K S H ds vs B' ∧ B'.Sublist B := by
  cases f with
  | z => obtain ⟨_, a, vs, e, q, l, r⟩ := h; exact ⟨a, vs, [], e, Same.rd s q, l, r, List.nil_sublist _⟩
  | b => obtain ⟨_, a, vs, e, q, l, r⟩ := h; exact ⟨a, vs, [], e, q, l, r, List.nil_sublist _⟩
  | o => obtain ⟨a, vs, B', e, eB, q, l, r⟩ := h; subst eB; exact ⟨a, vs, B', e, .inl q, l, r, List.sublist_cons_self _ _⟩
theorem Owns.atI {ds : List D} {vs : List V} {B : List Addr} {i : Int} {d : D} (h : Owns K S H ds vs B) (e : L2.atI ds i = some d) : ∃ v B1 B2 B3, L2.atI vs i = some v ∧ B = B1 ++ B2 ++ B3 ∧ Own K S H d v B2 := by
  have l := Owns.length ds vs B h
  unfold L2.atI at e ⊢
  rw [← l]
  cases hj : ixN ds.length i with
  | none => rw [hj] at e; cases e
  | some j =>
    rw [hj] at e
    exact Owns.get ds vs B j d h e
theorem mid_sub {α : Type} (a b c : List α) : b.Sublist (a ++ b ++ c) := by
  rw [List.append_assoc]
  exact (List.sublist_append_left b c).trans (List.sublist_append_right a _)
theorem Owns.take : ∀ (n : Nat) (ds : List D) (vs : List V) (B : List Addr), Owns K S H ds vs B → ∃ B', Owns K S H (ds.take n) (vs.take n) B' ∧ B'.Sublist B
  | 0, ds, vs, B, h => ⟨[], by simp [Owns], List.nil_sublist _⟩
  | n + 1, [], vs, B, h => by obtain ⟨rfl, rfl⟩ := h; exact ⟨[], by simp [Owns], List.nil_sublist _⟩
  | n + 1, d :: ds, vs, B, h => by
    obtain ⟨v, vs', B1, B2, rfl, rfl, r, rs⟩ := h
    obtain ⟨B', q, s⟩ := Owns.take n ds vs' B2 rs
    exact ⟨B1 ++ B', ⟨v, vs'.take n, B1, B', rfl, rfl, r, q⟩, List.Sublist.append (List.Sublist.refl _) s⟩
theorem Owns.drop : ∀ (n : Nat) (ds : List D) (vs : List V) (B : List Addr), Owns K S H ds vs B → ∃ B', Owns K S H (ds.drop n) (vs.drop n) B' ∧ B'.Sublist B
  | 0, ds, vs, B, h => ⟨B, h, List.Sublist.refl _⟩
  | n + 1, [], vs, B, h => by obtain ⟨rfl, rfl⟩ := h; exact ⟨[], by simp [Owns], List.nil_sublist _⟩
  | n + 1, d :: ds, vs, B, h => by
    obtain ⟨v, vs', B1, B2, rfl, rfl, r, rs⟩ := h
    obtain ⟨B', q, s⟩ := Owns.drop n ds vs' B2 rs
    exact ⟨B', q, s.trans (List.sublist_append_right _ _)⟩
theorem Owns.cut {ds : List D} {vs : List V} {B : List Addr} (lo hi : Option Int) (h : Owns K S H ds vs B) : ∃ B', Owns K S H (cutD ds lo hi) (cutV vs lo hi) B' ∧ B'.Sublist B := by
  have l := Owns.length ds vs B h
  unfold cutD cutV
  rw [l]
  obtain ⟨B1, q1, s1⟩ := Owns.drop (HT.sIx vs.length 0 lo) ds vs B h
  obtain ⟨B2, q2, s2⟩ := Owns.take (HT.sIx vs.length vs.length hi - HT.sIx vs.length 0 lo) _ _ B1 q1
  exact ⟨B2, q2, s2.trans s1⟩
theorem Owns.rep : ∀ (k : Nat) {ds : List D} {vs : List V}, Owns K S H ds vs [] → Owns K S H (List.replicate k ds).flatten (List.replicate k vs).flatten []
  | 0, ds, vs, h => by simp [Owns]
  | k + 1, ds, vs, h => by
    rw [List.replicate_succ, List.replicate_succ, List.flatten_cons, List.flatten_cons]
    exact Owns.append ds vs [] _ _ [] h (Owns.rep k h)
theorem sortIns_perm (x : Int) : ∀ xs, (sortIns x xs).Perm (x :: xs)
  | [] => List.Perm.refl _
  | y :: ys => by
    unfold sortIns
    split
    · exact List.Perm.refl _
    · exact ((sortIns_perm x ys).cons y).trans (List.Perm.swap x y ys)
theorem sortI_perm : ∀ xs, (sortI xs).Perm xs
  | [] => List.Perm.refl _
  | x :: xs => (sortIns_perm x (sortI xs)).trans ((sortI_perm xs).cons x)
theorem sortIns_sorted (x : Int) : ∀ xs, xs.Pairwise (· ≤ ·) → (sortIns x xs).Pairwise (· ≤ ·)
  | [], _ => by simp [sortIns]
  | y :: ys, h => by
    unfold sortIns
    obtain ⟨h1, h2⟩ := List.pairwise_cons.mp h
    split
    · rename_i hxy
      refine List.pairwise_cons.mpr ⟨fun z hz => ?_, h⟩
      rcases List.mem_cons.mp hz with rfl | hz
      · exact hxy
      · exact Int.le_trans hxy (h1 z hz)
    · rename_i hxy
      refine List.pairwise_cons.mpr ⟨fun z hz => ?_, sortIns_sorted x ys h2⟩
      rcases List.mem_cons.mp ((sortIns_perm x ys).mem_iff.mp hz) with rfl | hz
      · omega
      · exact h1 z hz
theorem sortI_sorted : ∀ xs, (sortI xs).Pairwise (· ≤ ·)
  | [] => List.Pairwise.nil
  | x :: xs => sortIns_sorted x _ (sortI_sorted xs)
theorem sortI_eq {xs ys : List Int} (p : ys.Perm xs) (s : ys.Pairwise (· ≤ ·)) : ys = sortI xs :=
  (p.trans (sortI_perm xs).symm).eq_of_pairwise (fun _ _ _ _ h1 h2 => Int.le_antisymm h1 h2) s (sortI_sorted xs)
theorem Owns.ints : ∀ {ds : List D} {vs : List V} {B : List Addr} {ns : List Int}, intsOf ds = some ns → Owns K S H ds vs B → vs = ns.map V.int
  | [], vs, B, ns, e, h => by cases e; rw [h.1]; rfl
  | d :: ds, vs, B, ns, e, h => by
    obtain ⟨v, vs', B1, B2, rfl, _, r, rs⟩ := h
    cases d <;> simp only [intsOf] at e <;> try (cases e)
    obtain ⟨ms, e1, rfl⟩ := Option.map_eq_some_iff.mp e
    rw [r.1, Owns.ints e1 rs]; rfl
theorem owns_ints : ∀ (ns : List Int), Owns K S H (ns.map .int) (ns.map V.int) []
  | [] => ⟨rfl, rfl⟩
  | n :: ns => ⟨_, _, [], [], rfl, rfl, ⟨rfl, rfl⟩, owns_ints ns⟩
theorem kints_eq : ∀ {ks : List Key} {ns : List Int}, kintsOf ks = some ns → ks = ns.map Sum.inl
  | [], ns, e => by cases e; rfl
  | .inl i :: ks, ns, e => by
    obtain ⟨ms, e1, rfl⟩ := Option.map_eq_some_iff.mp e
    rw [kints_eq e1]; rfl
  | .inr i :: ks, ns, e => nomatch e
theorem mulOk_ok {i j : Int} (h : mulOk i j = true) : CMul i j := of_decide_eq_true (p := (-(2 ^ 64) < i ∧ i < 2 ^ 64) ∨ (-(2 ^ 64) < j ∧ j < 2 ^ 64)) h
theorem divOk_ok {i j : Int} (h : divOk j = true) : CDiv i j := of_decide_eq_true (p := 0 < j ∧ j < 1073741824) h
theorem powOk_ok {i j : Int} (h : powOk i j = true) : CPow i j := of_decide_eq_true (p := 0 ≤ j ∧ j ≤ 1000000 ∧ i.natAbs < 2 ^ 64) h
theorem cleans_appE : ∀ (xs ys : List D), cleans (xs ++ ys) = (cleans xs && cleans ys)
  | [], ys => by simp [cleans]
  | x :: xs, ys => by simp [cleans, cleans_appE xs ys, Bool.and_assoc]
/-! ### the operations are right -/
theorem binC {op : BinK} {x y d : D} {v u : V} {B1 B2 : List Addr} {Q : VK} (e : dBin op x y = some d) (f : Fut S0 H0 S H) (h1 : Own K S H x v B1) (h2 : Own K S H y u B2) (r : Fresh H0 S (B1 ++ B2)) (k : KE K S0 H0 d Q) : rBin K op v u H Q := by
  unfold dBin at e
  split at e <;> try (cases e)
  · exact .inl ⟨_, _, h1.1, h2.1, k.int f⟩
  · split at e <;> cases e
    rename_i l
    exact .inr (.inl ⟨_, _, h1.1, h2.1, of_decide_eq_true l, k.str f⟩)
  · split at e <;> cases e
    rename_i l
    obtain ⟨a, vs, C1, e1, q1, o1, s1⟩ := Own.seqL f.sub h1
    obtain ⟨b, us, C2, e2, q2, o2, s2⟩ := Own.seqL f.sub h2
    have l1 := Owns.length _ _ _ o1
    have l2 := Owns.length _ _ _ o2
    exact .inr (.inr (.inl ⟨a, b, vs, us, e1, e2, q1, q2, by rw [← l1, ← l2]; exact of_decide_eq_true l, fun p n => k.newL f (Owns.append _ _ _ _ _ _ o1 o2) (r.sub (s1.append s2)) n⟩))
  · split at e <;> cases e
    rename_i l
    simp only [Bool.and_eq_true] at l
    obtain ⟨a, vs, e1, q1, o1⟩ := Own.seqT f.sub h1
    obtain ⟨b, us, e2, q2, o2⟩ := Own.seqT f.sub h2
    have l1 := Owns.length _ _ _ o1
    have l2 := Owns.length _ _ _ o2
    have b1 : B1 = [] := h1.1
    have b2 : B2 = [] := h2.1
    subst b1 b2
    refine .inr (.inr (.inr ⟨a, b, vs, us, e1, e2, .inl (.inl q1), .inl (.inl q2), by rw [← l1, ← l2]; exact of_decide_eq_true l.1.1, fun z => ?_, fun _ z => ?_, fun _ _ p n => k.newT f (Owns.append _ _ _ _ _ _ o1 o2) (by rw [cleans_appE]; simp [l.1.2, l.2]) r n⟩))
    · have : _ = [] := List.eq_nil_of_length_eq_zero (l1.trans (by rw [z]; rfl))
      subst this
      rw [← e2]
      exact k _ S H [] f (Own.freeze (H' := H) (Same.refl _) (.tup _) _ [] (by simpa [clean] using l.2) (fun p hp => nomatch hp) h2) .nil
    · have : _ = [] := List.eq_nil_of_length_eq_zero (l2.trans (by rw [z]; rfl))
      subst this
      rw [← e1]
      rw [List.append_nil] at k
      exact k _ S H [] f (Own.freeze (H' := H) (Same.refl _) (.tup _) _ [] (by simpa [clean] using l.1.2) (fun p hp => nomatch hp) h1) .nil
  · exact ⟨_, _, h1.1, h2.1, k.int f⟩
  · split at e <;> cases e
    rename_i l
    exact .inl ⟨_, _, h1.1, h2.1, mulOk_ok l, k.int f⟩
  · split at e <;> cases e
    rename_i l
    simp only [Bool.and_eq_true, decide_eq_true_eq] at l
    obtain ⟨⟨l1, l2, l3⟩, l4⟩ := l
    obtain ⟨a, vs, C1, e1, q1, o1, s1⟩ := Own.seqL f.sub h1
    obtain ⟨_, o1⟩ := Owns.ofZ (H' := H) _ _ _ l1 o1
    have ll := Owns.length _ _ _ o1
    exact .inr ⟨a, _, vs, e1, h2.1, q1, l2, l3, by rw [← ll]; exact of_decide_eq_true l4, fun p n => k.newL f (Owns.rep _ o1) .nil n⟩
  · split at e <;> cases e
    rename_i l
    exact ⟨_, _, h1.1, h2.1, divOk_ok l, k.int f⟩
  · split at e <;> cases e
    rename_i l
    exact ⟨_, _, h1.1, h2.1, of_decide_eq_true l, k.int f⟩
  · split at e <;> cases e
    rename_i l
    exact ⟨_, _, h1.1, h2.1, powOk_ok l, k.int f⟩
  · exact ⟨_, _, h1.1, h2.1, k.int f⟩
theorem getC {x y d : D} {v u : V} {B1 B2 : List Addr} (s : Same S H) (e : dIx x y = some d) (h1 : Own K S H x v B1) (h2 : Own K S H y u B2) : ∃ w B', Own K S H d w B' ∧ B'.Sublist B1 ∧ ∀ Q : VK, Q w H → rIxA K v u H Q := by
  unfold dIx at e
  split at e
  · obtain ⟨a, vs, C1, e1, q1, o1, s1⟩ := Own.seqL s h1
    obtain ⟨w, D1, D2, D3, q, rfl, ow⟩ := Owns.atI o1 e
    exact ⟨w, D2, ow, (mid_sub D1 D2 D3).trans s1, fun Q k => .inl ⟨a, vs, _, w, e1, h2.1, .inl (.inl q1), q, k⟩⟩
  · obtain ⟨a, vs, e1, q1, o1⟩ := Own.seqT s h1
    obtain ⟨w, D1, D2, D3, q, eB, ow⟩ := Owns.atI o1 e
    have : D2 = [] := by
      have := eB.symm
      simp at this
      exact this.2.1
    subst this
    exact ⟨w, [], ow, List.nil_sublist _, fun Q k => .inr (.inl ⟨a, vs, _, w, e1, h2.1, .inl (.inl q1), q, k⟩)⟩
  · obtain ⟨n, e0, rfl⟩ := Option.map_eq_some_iff.mp e
    obtain ⟨_, a, e1, q1⟩ := h1
    refine ⟨.int n, [], ⟨rfl, rfl⟩, List.nil_sublist _, fun Q k => .inl ⟨a, _, _, .int n, e1, h2.1, Same.seq s q1.seq, ?_, k⟩⟩
    unfold L2.atI at e0 ⊢
    rw [List.length_map]
    cases hj : ixN _ _ with
    | none => rw [hj] at e0; cases e0
    | some j =>
      rw [hj] at e0
      simp only [Option.bind_some] at e0
      simp only [Option.bind_some, List.getElem?_map, e0, Option.map_some]
  · obtain ⟨q0, k0, e0⟩ := Option.bind_eq_some_iff.mp e
    obtain ⟨a, vs, C1, e1, q1, l, o1, s1⟩ := Own.dicR s h1
    obtain ⟨w, D1, D2, D3, q, rfl, ow⟩ := lookK_some l.1 o1 e0
    refine ⟨w, D2, ow, (mid_sub D1 D2 D3).trans s1, fun Q k => .inr (.inr ⟨a, w, e1, .inl ⟨_, q0, q1, Own.key k0 h2, q.symm⟩, k⟩)⟩
  · obtain ⟨q0, k0, e0⟩ := Option.bind_eq_some_iff.mp e
    obtain ⟨a, vs, C1, e1, q1, l, o1, s1⟩ := Own.ditR s h1
    obtain ⟨w, D1, D2, D3, q, rfl, ow⟩ := lookK_some l.1 o1 e0
    obtain ⟨b, us, e2, q2, o2⟩ := Own.seqT s h2
    refine ⟨w, D2, ow, (mid_sub D1 D2 D3).trans s1, fun Q k => .inr (.inr ⟨a, w, e1, .inr ⟨_, q0, b, q1, e2, by rw [← Owns.keys k0 o2]; exact q2, q.symm⟩, k⟩)⟩
  · cases e
theorem ixC {x y d : D} {v u : V} {B1 B2 : List Addr} {Q : VK} (e : dIx x y = some d) (f : Fut S0 H0 S H) (h1 : Own K S H x v B1) (h2 : Own K S H y u B2) (r : Fresh H0 S (B1 ++ B2)) (k : KE K S0 H0 d Q) : rIxA K v u H Q := by
  obtain ⟨w, B', o, s, q⟩ := getC f.sub e h1 h2
  exact q Q (k w S H B' f o (r.sub (s.trans (List.sublist_append_left _ _))))
theorem dEq_val {x y : D} {b : Bool} {v u : V} {B1 B2 : List Addr} (s : Same S H) (e : dEq x y = some b) (h1 : Own K S H x v B1) (h2 : Own K S H y u B2) : ∃ p q, Dp K H v p ∧ Dp K H u q ∧ SeqAt.shaped p = true ∧ SeqAt.shaped q = true ∧ b = PyData.eqv p q := by
  unfold dEq at e
  split at e
  · rename_i p q e1 e2
    split at e <;> cases e
    rename_i l
    rw [Bool.and_eq_true] at l
    exact ⟨p, q, Own.dp s _ _ _ p e1 h1, Own.dp s _ _ _ q e2 h2, l.1, l.2, rfl⟩
  · cases e
theorem dIn_val {x y : D} {b : Bool} {v u : V} {B1 B2 : List Addr} (s : Same S H) (e : dIn x y = some b) (h1 : Own K S H x v B1) (h2 : Own K S H y u B2) :
    (∃ d ds, Dp K H v d ∧ Dp K H u (.list ds) ∧ SeqAt.shaped d = true ∧ SeqAt.shaped (.list ds) = true ∧ b = ds.any fun z => PyData.eqv z d) ∨ ∃ a o, u = .ref a ∧ DGet H a v o ∧ b = o.isSome := by
  unfold dIn at e
  split at e
  · split at e
    · rename_i f ds _ _ p ps e1 e2
      split at e <;> cases e
      rename_i l
      rw [Bool.and_eq_true] at l
      exact .inl ⟨p, ps, Own.dp s _ _ _ p e1 h1, Own.dp s _ _ _ (.list ps) (by simp [toP, e2]) h2, l.1, l.2, rfl⟩
    · cases e
  · obtain ⟨k, e1, rfl⟩ := Option.map_eq_some_iff.mp e
    obtain ⟨a, vs, C1, e3, q1, l, o1, s1⟩ := Own.dicR s h2
    exact .inr ⟨a, valV _ k, e3, .inl ⟨_, k, q1, Own.key e1 h1, rfl⟩, (lookK_is l.1 o1).symm⟩
  · split at e
    · obtain ⟨k, e1, rfl⟩ := Option.map_eq_some_iff.mp e
      obtain ⟨a, vs, C1, e3, q1, l, o1, s1⟩ := Own.ditR s h2
      obtain ⟨b, us, e2, q2, o2⟩ := Own.seqT s h1
      exact .inr ⟨a, valV _ k, e3, .inr ⟨_, k, b, q1, e2, by rw [← Owns.keys e1 o2]; exact q2, rfl⟩, (lookK_is l.1 o1).symm⟩
    · cases e
  · cases e
theorem cmpC {op : CmpK} {x y d : D} {v u : V} {B1 B2 : List Addr} {Q : VK} (e : dCmp op x y = some d) (s : Same S H) (h1 : Own K S H x v B1) (h2 : Own K S H y u B2) (k : ∀ b, d = .bl b → Q (.bl b) H) : rCmp K op v u H Q := by
  unfold dCmp at e
  split at e
  · obtain ⟨b, e1, rfl⟩ := Option.map_eq_some_iff.mp e
    obtain ⟨p, q, a1, a2, a3, a4, rfl⟩ := dEq_val s e1 h1 h2
    exact ⟨p, q, a1, a2, a3, a4, k _ rfl⟩
  · obtain ⟨b, e1, rfl⟩ := Option.map_eq_some_iff.mp e
    obtain ⟨p, q, a1, a2, a3, a4, rfl⟩ := dEq_val s e1 h1 h2
    exact ⟨p, q, a1, a2, a3, a4, k _ rfl⟩
  · cases e; exact ⟨_, _, h1.1, h2.1, k _ rfl⟩
  · cases e; exact ⟨_, _, h1.1, h2.1, k _ rfl⟩
  · cases e; exact ⟨_, _, h1.1, h2.1, k _ rfl⟩
  · cases e; exact ⟨_, _, h1.1, h2.1, k _ rfl⟩
  · obtain ⟨b, e1, rfl⟩ := Option.map_eq_some_iff.mp e
    rcases dIn_val s e1 h1 h2 with ⟨p, q, a1, a2, a3, a4, rfl⟩ | ⟨a, o, a1, a2, rfl⟩
    · exact .inl ⟨p, q, a1, a2, a3, a4, k _ rfl⟩
    · exact .inr ⟨a, o, a1, a2, k _ rfl⟩
  · obtain ⟨b, e1, rfl⟩ := Option.map_eq_some_iff.mp e
    rcases dIn_val s e1 h1 h2 with ⟨p, q, a1, a2, a3, a4, rfl⟩ | ⟨a, o, a1, a2, rfl⟩
    · exact .inl ⟨p, q, a1, a2, a3, a4, k _ rfl⟩
    · exact .inr ⟨a, o, a1, a2, k _ rfl⟩
  · cases e
theorem dCmp_bl {op : CmpK} {x y d : D} (e : dCmp op x y = some d) : ∃ b, d = .bl b := by
  unfold dCmp at e
  split at e <;> first | (obtain ⟨b, e1, rfl⟩ := Option.map_eq_some_iff.mp e; exact ⟨_, rfl⟩) | (cases e; exact ⟨_, rfl⟩) | cases e
theorem cutC {x d : D} {lo hi : Option Int} {v : V} {B : List Addr} {Q : VK} (e : dCut x lo hi = some d) (f : Fut S0 H0 S H) (h : Own K S H x v B) (r : Fresh H0 S B) (k : KE K S0 H0 d Q) : rSlA K v lo hi H Q := by
  unfold dCut at e
  split at e <;> cases e
  · obtain ⟨a, vs, C1, e1, q1, o1, s1⟩ := Own.seqL f.sub h
    obtain ⟨B', o2, s2⟩ := Owns.cut lo hi o1
    exact .inl ⟨a, vs, e1, .inl (.inl q1), fun p n => k.newL f o2 (r.sub (s2.trans s1)) n⟩
theorem isEmpty_len {α β : Type} : ∀ {xs : List α} {ys : List β}, xs.length = ys.length → (!xs.isEmpty) = !ys.isEmpty
  | [], [], _ => rfl
  | _ :: _, _ :: _, _ => rfl
theorem truC {x : D} {b : Bool} {v : V} {B : List Addr} (s : Same S H) (e : dTru x = some b) (h : Own K S H x v B) : TruV K v H b := by
  unfold dTru at e
  split at e
  · cases e; rw [h.1]; exact rfl
  · cases e; rw [h.1]; exact rfl
  · cases e; rw [h.1]; exact rfl
  · split at e <;> cases e
    rename_i l
    rw [h.1]; exact ⟨of_decide_eq_true l, rfl⟩
  · cases e
    obtain ⟨a, vs, C1, e1, q1, o1, s1⟩ := Own.seqL s h
    have l := Owns.length _ _ _ o1
    rw [e1]
    refine .inl ⟨vs, .inl (.inl q1), ?_⟩
    exact isEmpty_len l
  · cases e
    obtain ⟨a, vs, e1, q1, o1⟩ := Own.seqT s h
    have l := Owns.length _ _ _ o1
    rw [e1]
    refine .inr (.inl ⟨vs, .inl (.inl q1), ?_⟩)
    exact isEmpty_len l
  · cases e
theorem bC {b : BK} {x d : D} {v : V} {B : List Addr} {Q : VK} (e : dB b x = some d) (f : Fut S0 H0 S H) (h : Own K S H x v B) (r : Fresh H0 S B) (k : KE K S0 H0 d Q) : rB K b [v] H Q := by
  unfold dB at e
  split at e
  · cases e
    obtain ⟨a, vs, C1, e1, q1, o1, s1⟩ := Own.seqL f.sub h
    have l := Owns.length _ _ _ o1
    rw [e1]
    exact ⟨_, _, rfl, .inl ⟨vs, .inl (.inl q1), l⟩, k.int f⟩
  · cases e
    obtain ⟨a, vs, e1, q1, o1⟩ := Own.seqT f.sub h
    have l := Owns.length _ _ _ o1
    rw [e1]
    exact ⟨_, _, rfl, .inr ⟨vs, .inl (.inl q1), l⟩, k.int f⟩
  · cases e
    obtain ⟨_, a, e1, q1⟩ := h
    rw [e1]
    exact ⟨_, _, rfl, .inl ⟨_, Same.seq f.sub q1.seq, by rw [List.length_map]⟩, k.int f⟩
  · split at e <;> cases e
    rename_i l
    rw [h.1]
    exact ⟨_, _, rfl, ⟨of_decide_eq_true l, rfl⟩, k.int f⟩
  · cases e; rw [h.1]; exact ⟨_, rfl, k.int f⟩
  · cases e; rw [h.1]; exact .inl ⟨_, rfl, k.int f⟩
  · cases e; rw [h.1]; exact .inr ⟨_, rfl, k.int f⟩
  · cases e
    obtain ⟨a, vs, C1, e1, q1, o1, s1⟩ := Own.seqL f.sub h
    rw [e1]
    exact ⟨a, vs, rfl, .inl (.inl (.inl q1)), fun p n => k.newL f o1 (r.sub s1) n⟩
  · cases e
    obtain ⟨a, vs, e1, q1, o1⟩ := Own.seqT f.sub h
    rw [e1]
    exact ⟨a, vs, rfl, .inr (.inl (.inl q1)), fun p n => k.newL f o1 .nil n⟩
  · split at e <;> cases e
    rename_i c
    obtain ⟨a, vs, C1, e1, q1, o1, s1⟩ := Own.seqL f.sub h
    rw [e1]
    exact ⟨a, vs, rfl, .inl ⟨.inl (.inl q1), fun p n => k.newT f o1 c (r.sub s1) n⟩⟩
  · cases e
    have h' := h
    obtain ⟨a, vs, e1, q1, o1⟩ := Own.seqT f.sub h
    rw [e1]
    refine ⟨a, vs, rfl, .inr ⟨.inl (.inl q1), ?_⟩⟩
    rw [e1] at h'
    exact k _ S H B f h' r
  · obtain ⟨ns, e1, e2⟩ := Option.bind_eq_some_iff.mp e
    cases e2
    obtain ⟨a, vs, C1, e3, q1, o1, s1⟩ := Own.seqL f.sub h
    rw [Owns.ints e1 o1] at q1
    rw [e3]
    refine .inl ⟨a, ns, rfl, .inl (.inl q1), fun ns' p pe ps n => ?_⟩
    rw [sortI_eq pe ps]
    exact k.newL f (owns_ints _) .nil n
  · obtain ⟨ns, e1, e2⟩ := Option.bind_eq_some_iff.mp e
    split at e2 <;> cases e2
    rename_i l64
    obtain ⟨a, vs, C1, e3, q1, l, o1, s1⟩ := Own.dicR f.sub h
    rw [e3]
    refine .inr ⟨a, _, ns, rfl, q1, ?_, l64, fun ns' p pe ps n => ?_⟩
    · rw [← kints_eq e1, List.map_fst_zip (Nat.le_of_eq l.1)]
    · rw [sortI_eq pe ps]
      exact k.newL f (owns_ints _) .nil n
  · cases e
theorem tyC {x : D} {v : V} {B : List Addr} (h : Own K S H x v B) (s : Same S H) (n : ∀ f c ks ds, x ≠ .obj f c ks ds) (n2 : ∀ f ks ds, x ≠ .dit f ks ds) (n3 : ∀ ns, x ≠ .scr ns) (n4 : x ≠ .xcp) : TyX K H v (.type (tyName x)) := by
  cases x with
  | non => rw [h.1]; exact .base .non
  | bl b => rw [h.1]; exact .base (.bl _)
  | int i => rw [h.1]; exact .base (.int _)
  | str z => rw [h.1]; exact .base (.str _)
  | tup ds => obtain ⟨a, vs, e1, q1, o1⟩ := Own.seqT s h; rw [e1]; exact .base (.tup q1)
  | lst f ds =>
    obtain ⟨a, vs, C1, e1, q1, o1, s1⟩ := Own.seqL s h
    rw [e1]
    exact .base (.lst q1)
  | dic f ks ds =>
    obtain ⟨a, vs, C1, e1, q1, l, o1, s1⟩ := Own.dicR s h
    rw [e1]
    rcases q1 with q1 | ⟨o, q1⟩
    · exact .base (.dK q1)
    · exact .fDict q1
  | dit f ks ds => exact absurd rfl (n2 _ _ _)
  | scr ns => exact absurd rfl (n3 _)
  | obj f c ks ds => exact absurd rfl (n _ _ _ _)
  | xcp => exact absurd rfl n4
end EV
namespace EV
open PySem L2
variable {K : Kz} {S S' H H' S0 H0 S1 H1 : Hp} {σ : St} {env env' : Env} {As : Nat → List Addr} {E : XK} {XR : PySem.W.Frag}
mutual
theorem isZ_clean : ∀ d : D, isZ d = true → clean d = true
  | .non, _ => rfl | .bl _, _ => rfl | .int _, _ => rfl | .str _, _ => rfl | .scr _, _ => rfl | .xcp, _ => rfl
  | .tup ds, z => isZs_cleans ds z
  | .lst f ds, z => by simp only [isZ, Bool.and_eq_true, decide_eq_true_eq] at z; simp [clean, z.1, isZs_cleans ds z.2]
  | .dic f ks ds, z => by simp only [isZ, Bool.and_eq_true, decide_eq_true_eq] at z; simp [clean, z.1, isZs_cleans ds z.2]
  | .dit f ks ds, z => by simp only [isZ, Bool.and_eq_true, decide_eq_true_eq] at z; simp [clean, z.1, isZs_cleans ds z.2]
  | .obj f c ks ds, z => by
    simp only [isZ, Bool.and_eq_true, decide_eq_true_eq] at z
    obtain ⟨rfl, z⟩ := z
    simp [clean, isZs_cleans ds z]
theorem isZs_cleans : ∀ ds : List D, isZs ds = true → cleans ds = true
  | [], _ => rfl
  | d :: ds, z => by simp only [isZs, Bool.and_eq_true] at z; simp [cleans, isZ_clean d z.1, isZs_cleans ds z.2]
end
mutual
theorem isZ_zz : ∀ d : D, isZ (zz d) = true
  | .non => rfl | .bl _ => rfl | .int _ => rfl | .str _ => rfl | .scr _ => rfl | .xcp => rfl
  | .tup ds => isZs_zzs ds
  | .lst f ds => by simp [zz, isZ, isZs_zzs ds]
  | .dic f ks ds => by simp [zz, isZ, isZs_zzs ds]
  | .dit f ks ds => by simp [zz, isZ, isZs_zzs ds]
  | .obj f c ks ds => by simp [zz, isZ, isZs_zzs ds]
theorem isZs_zzs : ∀ ds : List D, isZs (zzs ds) = true
  | [] => rfl
  | d :: ds => by simp [zzs, isZs, isZ_zz d, isZs_zzs ds]
end
/-! ### slots stored -/
theorem Sta.set {i : Nat} {d : D} {v : V} {B : List Addr} (s : Sta K S H σ env As) (hi : i < env.length) (o : Own K S H d v B) (nd : B.Nodup) (new : ∀ p ∈ B, S p = none ∧ ∀ j, j ≠ i → p ∉ As j) :
    Sta K S H (σ.set i (some v)) (env.set i (some d)) (fun j => if j = i then B else As j) := by
  have hi' : i < σ.length := by rw [s.len]; exact hi
  refine ⟨s.hx, s.sub, by simp [s.len], fun j d' e => ?_, fun j e => ?_, fun j => ?_, fun j k hjk p hp => ?_, fun j p hp => ?_⟩
  · by_cases h : j = i
    · subst h
      rw [List.getElem?_set_self hi] at e
      cases e
      exact ⟨v, List.getElem?_set_self hi', by simpa using o⟩
    · rw [List.getElem?_set_ne (Ne.symm h)] at e
      obtain ⟨v', h1, h2⟩ := s.val j d' e
      exact ⟨v', by rw [List.getElem?_set_ne (Ne.symm h)]; exact h1, by simpa [h] using h2⟩
  · by_cases h : j = i
    · subst h
      exact absurd (List.getElem?_set_self hi) (e d)
    · simp only [h, if_false]
      exact s.emp j fun d' e' => e d' (by rw [List.getElem?_set_ne (Ne.symm h)]; exact e')
  · try dsimp only
    split
    · exact nd
    · exact s.nd j
  · try dsimp only at hp ⊢
    split at hp
    · rename_i h
      subst h
      rw [if_neg (Ne.symm hjk)]
      exact (new p hp).2 k (Ne.symm hjk)
    · split
      · rename_i h h2
        subst h2
        exact fun z => (new p z).2 j h hp
      · exact s.dj j k hjk p hp
  · try dsimp only at hp
    split at hp
    · exact (new p hp).1
    · exact s.out j p hp
theorem wipe_get : ∀ (vs : List Nat) (σ : St) (j : Nat), (wipe σ vs)[j]? = if j ∈ vs then (if j < σ.length then some none else none) else σ[j]?
  | [], σ, j => by simp [wipe]
  | v :: vs, σ, j => by
    unfold wipe
    by_cases h : v = j
    · subst h
      simp only [List.mem_cons, true_or, if_true]
      by_cases hl : v < σ.length
      · rw [List.getElem?_set_self (by rw [wipe_length]; exact hl), if_pos hl]
      · rw [List.getElem?_eq_none (by simp [wipe_length]; omega), if_neg hl]
    · rw [List.getElem?_set_ne h, wipe_get vs σ j]
      have h' : ¬ j = v := fun e => h e.symm
      simp [h']
theorem wipeE_length (env : Env) : ∀ vs : List Nat, (wipeE env vs).length = env.length
  | [] => rfl
  | v :: vs => by unfold wipeE; rw [List.length_set, wipeE_length env vs]
theorem wipeE_get : ∀ (vs : List Nat) (env : Env) (j : Nat), (wipeE env vs)[j]? = if j ∈ vs then (if j < env.length then some none else none) else env[j]?
  | [], env, j => by simp [wipeE]
  | v :: vs, env, j => by
    unfold wipeE
    by_cases h : v = j
    · subst h
      simp only [List.mem_cons, true_or, if_true]
      by_cases hl : v < env.length
      · rw [List.getElem?_set_self (by rw [wipeE_length]; exact hl), if_pos hl]
      · rw [List.getElem?_eq_none (by simp [wipeE_length]; omega), if_neg hl]
    · rw [List.getElem?_set_ne h, wipeE_get vs env j]
      have h' : ¬ j = v := fun e => h e.symm
      simp [h']
theorem Sta.wipe (s : Sta K S H σ env As) (vs : List Nat) : Sta K S H (L2.wipe σ vs) (wipeE env vs) (fun j => if j ∈ vs then [] else As j) := by
  refine ⟨s.hx, s.sub, by rw [wipe_length, wipeE_length, s.len], fun j d e => ?_, fun j e => ?_, fun j => ?_, fun j k hjk p hp => ?_, fun j p hp => ?_⟩
  · rw [wipeE_get] at e
    by_cases h : j ∈ vs
    · rw [if_pos h] at e
      split at e <;> cases e
    · rw [if_neg h] at e
      obtain ⟨v, h1, h2⟩ := s.val j d e
      exact ⟨v, by rw [wipe_get, if_neg h]; exact h1, by simpa [h] using h2⟩
  · by_cases h : j ∈ vs
    · simp [h]
    · simp only [h, if_false]
      exact s.emp j fun d e' => e d (by rw [wipeE_get, if_neg h]; exact e')
  · try dsimp only
    split
    · exact List.nodup_nil
    · exact s.nd j
  · try dsimp only at hp ⊢
    split at hp
    · cases hp
    · split
      · exact fun z => nomatch z
      · exact s.dj j k hjk p hp
  · try dsimp only at hp
    split at hp
    · cases hp
    · exact s.out j p hp
theorem wipe_same {vs : List Nat} {σ σ' : St} (l : σ'.length = σ.length) (h : ∀ j, j ∉ vs → σ'[j]? = (wipe σ vs)[j]?) : wipe σ' vs = wipe σ vs := by
  apply List.ext_getElem?
  intro j
  rw [wipe_get]
  by_cases hj : j ∈ vs
  · rw [if_pos hj, wipe_get, if_pos hj, l]
  · rw [if_neg hj]; exact h j hj
/-! ### targets -/
def gAll : List Nat → TGs
  | [] => gNil
  | i :: is => gCons (gName i) (gAll is)
def gT (K : PySem.W.Frag) : Tg → TG
  | .name i => gName i
  | .tup is => gTup K is.length (gAll is)
theorem setAllC : ∀ {is : List Nat} {ds : List D} {vs : List V} {env env' : Env} {σ : St} {As : Nat → List Addr} {Q : St → Hp → Prop}, Sta K S H σ env As → setAll is ds env = .ok env' → Owns K S H ds vs [] →
    (∀ σ' As', Sta K S H σ' env' As' → σ'.length = σ.length → (∀ j, j ∉ is → σ'[j]? = σ[j]?) → (∀ j, ∀ p ∈ As' j, p ∈ As j) → Q σ' H) → gAll is vs σ H Q
  | [], [], vs, env, env', σ, As, Q, s, e, o, k => by
    cases e
    exact ⟨o.1, k σ As s rfl (fun _ _ => rfl) fun _ _ z => z⟩
  | i :: is, d :: ds, vs, env, env', σ, As, Q, s, e, o, k => by
    obtain ⟨v, vs', B1, B2, rfl, eB, r, rs⟩ := o
    obtain ⟨rfl, rfl⟩ : B1 = [] ∧ B2 = [] := by
      have := eB.symm
      simpa using this
    simp only [setAll] at e
    split at e
    · rename_i hi
      have s2 := s.set (d := d) (v := v) (B := []) hi r List.nodup_nil (fun _ z => nomatch z)
      refine ⟨v, vs', rfl, setAllC s2 e rs fun σ' As' st l h hA => k σ' As' st (by rw [l, List.length_set]) (fun j hj => ?_) fun j p hp => ?_⟩
      · simp only [List.mem_cons, not_or] at hj
        rw [h j hj.2, List.getElem?_set_ne (Ne.symm hj.1)]
      · have := hA j p hp
        split at this
        · cases this
        · exact this
    · cases e
  | [], d :: ds, vs, env, env', σ, As, Q, s, e, o, k => by simp [setAll] at e
  | i :: is, [], vs, env, env', σ, As, Q, s, e, o, k => by simp [setAll] at e
theorem setTgC {t : Tg} {d : D} {v : V} {Q : St → Hp → Prop} (s : Sta K S H σ env As) (e : setTg t d env = .ok env') (o : Own K S H d v []) 
    (k : ∀ σ' As', Sta K S H σ' env' As' → σ'.length = σ.length → (∀ j, j ∉ t.slots → σ'[j]? = σ[j]?) → (∀ j, ∀ p ∈ As' j, p ∈ As j) → Q σ' H) : gT K t v σ H Q := by
  cases t with
  | name i =>
    simp only [setTg] at e
    split at e
    · rename_i h
      cases e
      simp only [decide_eq_true_eq] at h
      refine k _ _ (s.set (d := d) (v := v) (B := []) h o List.nodup_nil (fun _ z => nomatch z)) (List.length_set ..) (fun j hj => ?_) fun j p hp => ?_
      · simp only [Tg.slots, List.mem_singleton] at hj
        exact List.getElem?_set_ne (Ne.symm hj)
      · split at hp
        · cases hp
        · exact hp
    · cases e
  | tup is =>
    simp only [setTg] at e
    split at e
    · rename_i ds
      obtain ⟨a, vs, e1, q1, o1⟩ := Own.seqT s.sub o
      have l := Owns.length _ _ _ o1
      have l2 : ∀ (is : List Nat) (ds : List D) (env env' : Env), setAll is ds env = .ok env' → is.length = ds.length := fun is => by
        induction is with
        | nil => intro ds env env' e; cases ds <;> simp_all [setAll]
        | cons i is ih =>
          intro ds env env' e
          cases ds with
          | nil => simp [setAll] at e
          | cons d ds =>
            simp only [setAll] at e
            split at e
            · simp [ih _ _ _ e]
            · cases e
      exact ⟨a, vs, e1, .inl (.inl q1), by rw [← l, l2 _ _ _ _ e], setAllC s e o1 k⟩
    · cases e
/-- what was stored is shared, where the item was -/
theorem setAll_z : ∀ {is : List Nat} {ds : List D} {env env' : Env}, setAll is ds env = .ok env' → isZs ds = true → ∀ (i : Nat) (d : D), env'[i]? = some (some d) → env[i]? = some (some d) ∨ isZ d = true
  | [], [], env, env', e, z, i, d, h => by cases e; exact .inl h
  | j :: is, x :: ds, env, env', e, z, i, d, h => by
    simp only [setAll] at e
    simp only [isZs, Bool.and_eq_true] at z
    split at e
    · rename_i hj
      rcases setAll_z e z.2 i d h with h | h
      · by_cases hij : i = j
        · subst hij
          rw [List.getElem?_set_self hj] at h
          cases h
          exact .inr z.1
        · rw [List.getElem?_set_ne (Ne.symm hij)] at h
          exact .inl h
      · exact .inr h
    · cases e
  | [], d :: ds, env, env', e, z, i, x, h => by simp [setAll] at e
  | j :: is, [], env, env', e, z, i, x, h => by simp [setAll] at e
theorem setTg_z {t : Tg} {d : D} (e : setTg t d env = .ok env') (z : isZ d = true) (i : Nat) (x : D) (h : env'[i]? = some (some x)) : env[i]? = some (some x) ∨ isZ x = true := by
  cases t with
  | name j =>
    simp only [setTg] at e
    split at e
    · rename_i hj
      cases e
      simp only [decide_eq_true_eq] at hj
      by_cases hij : i = j
      · subst hij
        rw [List.getElem?_set_self hj] at h
        cases h
        exact .inr z
      · rw [List.getElem?_set_ne (Ne.symm hij)] at h
        exact .inl h
    · cases e
  | tup is =>
    simp only [setTg] at e
    split at e
    · exact setAll_z e (by simpa [isZ] using z) i x h
    · cases e
theorem setAll_ne : ∀ (is : List Nat) (ds : List D) (env : Env) (x : Exc), setAll is ds env ≠ .ex x
  | [], [], env, x, h => nomatch h
  | j :: is, d :: ds, env, x, h => by
    simp only [setAll] at h
    split at h
    · exact setAll_ne is ds _ x h
    · cases h
  | [], d :: ds, env, x, h => by simp [setAll] at h
  | j :: is, [], env, x, h => by simp [setAll] at h
theorem setTg_ne {t : Tg} {d : D} {x : Exc} : setTg t d env ≠ .ex x := by
  intro h
  unfold setTg at h
  split at h
  · split at h <;> cases h
  · split at h
    · exact setAll_ne _ _ _ _ h
    · cases h
end EV
/-! an own class's __contains__ and __eq__ -/
namespace EV
open PySem PySem.Spec PyProof.Rows L2
section
variable {X : Cx} {CX : CXT} {k : Nat} {C f : Addr} {fd : FuncData} {ps : List Str} {sp : Sp} {E : XK}
/-- a def called by the machine -/
theorem own_call {pins : List (Addr × Obj)} {σ : L2.St} {H : Hp} {s : Shared} {Q : VK} {us : List Value} {vs : List V} (F : FnOk X.prog X.w X.K X.mg X.base CX k f fd ps sp) (I : Inv X pins σ H s) (hr : Room k X.A) (hb : Binds X.K fd ps []) (hx : Passes CX X E)
    (rv : Vals vs us) (h : sp vs H Q E) : wpAny (model X.prog X.w) X.A (call (.ref f) us) (EP X pins σ Q) X.xe s := by
  have hl : (us ++ []).length = ps.length := by
    rw [List.append_nil, ← F.len _ _ _ _ h]
    exact rv.length.symm
  have hb2 := hb s us I.kIn hl
  rw [List.append_nil] at hb2
  refine wpAny_call (codeAny_mono (F.run X.A X.stack s H ⟨us, []⟩ us vs Q E hr I.env0 hb2 rv h) fun r s' hq => ?_)
  cases r with
  | error e => exact hx pins σ H s e s' I hq
  | ok fl =>
    cases fl with
    | ret w => exact I.after hq
    | next => exact False.elim hq
    | brk => exact False.elim hq
    | cont => exact False.elim hq
/-- x in y, y an instance with its own __contains__ -/
def rInOwn (C : Addr) (sp : Sp) (E : XK) (neg : Bool) : R2 := fun x y H Q => ∃ a dx fs, y = .ref a ∧ H a = some (.ins C dx fs) ∧ sp [y, x] H (fun v H' => ∃ b, v = .bl b ∧ Q (.bl (if neg then !b else b)) H') E
theorem op_inOwn (F : FnOk X.prog X.w X.K X.mg X.base CX k f fd ps sp) (hs : PySem.W.findIn X.K (.ref C) "__contains__" = some (some (.ref f))) (hf : PySem.W.isFn X.K (.ref f) = true) (hr : Room k X.A) (hb : Binds X.K fd ps []) (hx : Passes CX X E) :
    OpR X (compareOp .In) (rInOwn C sp E false) := by
  intro pins s σ H x y v u Q I rx ry h
  obtain ⟨a, dx, fs, rfl, ha, hsp⟩ := h
  obtain rfl : u = Value.ref a := ry
  obtain ⟨mA, J, _⟩ := ins_get I.hok ha
  obtain ⟨od, J, _⟩ := J.look
  obtain ⟨m, hF⟩ := I.fr
  refine PySem.W.in_K hF I.ok.mod.kin J hs hf (thn (own_call F I hr hb hx (.cons (show L2.RelV (.ref a) (Value.ref a) from rfl) (.cons rx .nil)) hsp) fun w s' hq => ?_)
  obtain ⟨z, H', I', rz, b, rfl, q⟩ := hq
  obtain rfl : w = Value.bool b := rz
  exact wpAny_pure ⟨.bl b, H', I', rfl, by simpa using q⟩
theorem op_notInOwn (F : FnOk X.prog X.w X.K X.mg X.base CX k f fd ps sp) (hs : PySem.W.findIn X.K (.ref C) "__contains__" = some (some (.ref f))) (hf : PySem.W.isFn X.K (.ref f) = true) (hr : Room k X.A) (hb : Binds X.K fd ps []) (hx : Passes CX X E) :
    OpR X (compareOp .NotIn) (rInOwn C sp E true) := by
  intro pins s σ H x y v u Q I rx ry h
  obtain ⟨a, dx, fs, rfl, ha, hsp⟩ := h
  obtain rfl : u = Value.ref a := ry
  obtain ⟨mA, J, _⟩ := ins_get I.hok ha
  obtain ⟨od, J, _⟩ := J.look
  obtain ⟨m, hF⟩ := I.fr
  refine PySem.W.notIn_K hF I.ok.mod.kin J hs hf (thn (own_call F I hr hb hx (.cons (show L2.RelV (.ref a) (Value.ref a) from rfl) (.cons rx .nil)) hsp) fun w s' hq => ?_)
  obtain ⟨z, H', I', rz, b, rfl, q⟩ := hq
  obtain rfl : w = Value.bool b := rz
  exact wpAny_pure ⟨.bl (!b), H', I', rfl, by simpa using q⟩
theorem own_call1 {pins : List (Addr × Obj)} {σ : L2.St} {H : Hp} {s : Shared} {Q : VK} {us : List Value} {vs : List V} (F : FnOk X.prog X.w X.K X.mg X.base CX k f fd ps sp) (I : Inv X pins σ H s) (hr : Room (k + 1) X.A) (hb : Binds X.K fd ps []) (hx : Passes CX X E)
    (rv : Vals vs us) (h : sp vs H Q E) : wpAny (model X.prog X.w) X.A.in1 (call (.ref f) us) (EP X pins σ Q) X.xe s := by
  have hl : (us ++ []).length = ps.length := by
    rw [List.append_nil, ← F.len _ _ _ _ h]
    exact rv.length.symm
  have hb2 := hb s us I.kIn hl
  rw [List.append_nil] at hb2
  refine wpAny_call (codeAny_mono (F.run X.A.in1 X.stack s H ⟨us, []⟩ us vs Q E hr.in1 I.env0.in1 hb2 rv h) fun r s' hq => ?_)
  cases r with
  | error e => exact hx pins σ H s e s' I hq
  | ok fl =>
    cases fl with
    | ret w => exact I.after hq
    | next => exact False.elim hq
    | brk => exact False.elim hq
    | cont => exact False.elim hq
/-- x == y (x != y), x an instance with its own __eq__, y an instance of the class or (only of ==) a tuple -/
def rEqOwn (K : PySem.W.Frag) (C : Addr) (sp : Sp) (E : XK) (neg : Bool) : R2 := fun x y H Q => ∃ a dx fs, x = .ref a ∧ H a = some (.ins C dx fs) ∧ ((∃ b dy gs, y = .ref b ∧ H b = some (.ins C dy gs)) ∨ (neg = false ∧ ∃ b xs, y = .ref b ∧ SqT K H b xs)) ∧
  sp [x, y] H (fun v H' => ∃ b, v = .bl b ∧ Q (.bl (if neg then !b else b)) H') E
/-- what the written part says of a class with __eq__ and without __ne__ -/
structure NeC (K : PySem.W.Frag) (C f : Addr) : Prop where
  cls : ∃ nm q N bs hdct sn sub ab col dd k0 k1 k2 k3 k5 newId, K.lookup C = some (excClassObj nm q C N bs [.type "object"] hdct sn sub ab col dd k0 k1 k2 k3 k5 newId) ∧ ∃ oc od es ep sl, K.lookup N = some ⟨oc, od, .dict es ep, sl⟩ ∧ StrKeys es ∧ nsFind es "__eq__" = some (.ref f) ∧ nsFind es "__ne__" = none
  fn : ∃ of, K.lookup f = some of ∧ of.cls = .type "function"
theorem op_neOwn (F : FnOk X.prog X.w X.K X.mg X.base CX k f fd ps sp) (T : NeC X.K C f) (hr : Room (k + 1) X.A) (hb : Binds X.K fd ps []) (hx : Passes CX X E) :
    OpR X (compareOp .NotEq) (rEqOwn X.K C sp E true) := by
  intro pins s σ H x y v u Q I rx ry h
  obtain ⟨a, dx, fs, rfl, ha, hy, hsp⟩ := h
  obtain rfl : v = Value.ref a := rx
  obtain ⟨b, dy, gs, rfl, hb'⟩ : ∃ b dy gs, y = .ref b ∧ H b = some (.ins C dy gs) := by
    rcases hy with h | ⟨h, _⟩
    · exact h
    · cases h
  obtain rfl : u = Value.ref b := ry
  obtain ⟨mA, J, _⟩ := ins_get I.hok ha
  obtain ⟨od, J, _⟩ := J.look
  obtain ⟨mB, J', _⟩ := ins_get I.hok hb'
  obtain ⟨od', J', _⟩ := J'.look
  obtain ⟨nm, q0, N, bs, hdct, sn, sub, ab, col, dd, k0, k1, k2, k3, k5, newId, hC, oc, odN, es, ep, sl, hN, hsk, he, hne⟩ := T.cls
  obtain ⟨of, hf, hfc⟩ := T.fn
  have Y : s.heap.OwnEqNoNe a C f "object" [.type "object"] := ⟨_, of, nm, q0, N, bs, hdct, sn, sub, ab, col, dd, k0, k1, k2, k3, k5, newId, fun n => nsFind es n, _, J.at_, J.cls, I.kIn _ _ hC, ⟨_, es, ep, I.kIn _ _ hN, rfl, hsk, fun _ => rfl⟩, he, I.kIn _ _ hf, hfc, PySem.F.cmp_object.mro, PySem.F.cmp_object.eq.lookup, hne⟩
  have hu := hr.in1.units0
  obtain ⟨hp, g, d, t, os⟩ := s
  refine compareOp_ne_ownEq PySem.F.cmp_object Y J'.at_ J'.cls hu ?_
  refine thn (own_call1 F I hr hb hx (.cons (show L2.RelV (.ref a) (Value.ref a) from rfl) (.cons (show L2.RelV (.ref b) (Value.ref b) from rfl) .nil)) hsp) fun w s' hq => ?_
  obtain ⟨z, H', I', rz, b, rfl, q⟩ := hq
  obtain rfl : w = Value.bool b := rz
  exact ⟨b, rfl, .bl (!b), H', I', rfl, by simpa using q⟩
theorem op_eqOwn (F : FnOk X.prog X.w X.K X.mg X.base CX k f fd ps sp) (hs : PySem.W.findIn X.K (.ref C) "__eq__" = some (some (.ref f))) (hf : PySem.W.isFn X.K (.ref f) = true) (ht : PySem.W.notFirst X.K C (.type "tuple") = true) (hr : Room k X.A) (hb : Binds X.K fd ps []) (hx : Passes CX X E) :
    OpR X (compareOp .Eq) (rEqOwn X.K C sp E false) := by
  intro pins s σ H x y v u Q I rx ry h
  obtain ⟨a, dx, fs, rfl, ha, hy, hsp⟩ := h
  obtain rfl : v = Value.ref a := rx
  obtain ⟨mA, J, _⟩ := ins_get I.hok ha
  obtain ⟨od, J, _⟩ := J.look
  obtain ⟨m, hF⟩ := I.fr
  have fin : wpAny (model X.prog X.w) X.A (call (.ref f) [.ref a, u]) (PySem.W.CmpBack (EP X pins σ Q)) X.xe s := thn (own_call F I hr hb hx (.cons (show L2.RelV (.ref a) (Value.ref a) from rfl) (.cons ry .nil)) hsp) fun w s' hq => by
    obtain ⟨z, H', I', rz, b, rfl, q⟩ := hq
    obtain rfl : w = Value.bool b := rz
    exact ⟨.bl b, H', I', rfl, q⟩
  rcases hy with ⟨b, dy, gs, rfl, hb'⟩ | ⟨_, b, xs, rfl, hb'⟩
  · obtain rfl : u = Value.ref b := ry
    obtain ⟨mB, J', _⟩ := ins_get I.hok hb'
    obtain ⟨od', J', _⟩ := J'.look
    exact PySem.W.cmp_K (op := .Eq) (tb := .ref C) hr.units0 hF I.ok.mod.kin J J'.type (by simp [PySem.W.notFirst]) hs hf fin
  · obtain rfl : u = Value.ref b := ry
    obtain ⟨its, rvs, hT, _⟩ := I.tuple hb'
    obtain ⟨o, ho, hc, _⟩ := hT
    have tT : PySem.W.Looks (model X.prog X.w) s.heap (typeOf (.ref b)) (.type "tuple") := hc ▸ (PySem.W.Looks.ld ho).andThen .now
    exact PySem.W.cmp_K (op := .Eq) (tb := .type "tuple") hr.units0 hF I.ok.mod.kin J tT ht hs hf fin
end
end EV
/-! enumerate over a tuple -/
namespace EV
open PySem PySem.Spec PyProof.Rows L2
/-- the maker of enumerate, from a thing whose iterator is o -/
theorem newEnum {v : Value} {o : Obj} {Y : Heap → Prop} (B : Begins v o Y) :
    Meets (Builtin.«enumerate.__new__» ⟨[.type "enumerate", v], []⟩) (fun _ R s => Y s.heap ∧
      R (.ok (.ret (.ref (s.heap.push o).objs.size))) { s with heap := (s.heap.push o).push { cls := .type "enumerate", data := .fields #[.none, .bool false, .ref s.heap.objs.size, rawInt 0, .none, .none] } }) :=
  .of_wp fun prog w A R s hyp => by
    obtain ⟨hp, gs, dr, tk, os⟩ := s
    obtain ⟨y1, hyp⟩ := hyp
    have sub1 := sub_enumerate
    have it1 : ∀ {A2 : Around} {E2 : Value → Shared → Prop} {Q2 : Value → Shared → Prop}, Q2 (.ref hp.objs.size) ⟨hp.push o, gs, dr, tk, os⟩ → wpAny (model prog w) A2 (pyIter v) Q2 E2 ⟨hp, gs, dr, tk, os⟩ := fun q2 => B.iter prog w _ _ _ _ y1 q2
    wp_walk using it1
    refine wpAny_stack_any fun sk => wpAny_pure ?_
    split
    · rename_i cl _ _ _ _ _
      by_cases hcl : (cl == Value.type "enumerate") = true
      · rw [hcl]
        wp_walk using it1
        exact ⟨_, rfl, hyp⟩
      · rw [Bool.not_eq_true] at hcl
        rw [hcl]
        wp_walk using it1
        exact ⟨_, rfl, hyp⟩
    · wp_walk using it1
      exact ⟨_, rfl, hyp⟩
section
variable {prog : Program} {w : World} {A : Around} {E : Value → Shared → Prop} {s : Shared}
theorem enumOf {v : Value} {o : Obj} {Y : Heap → Prop} {Q : Value → Shared → Prop} (B : Begins v o Y) (y : Y s.heap)
    (k : ∀ h2, IsEnum h2 (s.heap.objs.size + 1) s.heap.objs.size 0 .none → h2.get? s.heap.objs.size = some o → (∀ b ob, s.heap.get? b = some ob → h2.get? b = some ob) → Q (.ref (s.heap.objs.size + 1)) { s with heap := h2 }) :
    wpAny (model prog w) A (call (.type "enumerate") [v]) Q E s := by
  have hz : (s.heap.push o).objs.size = s.heap.objs.size + 1 := Heap.size_push ..
  refine callType_new F.called_enumerate (by decide) (F.typeCall_enumerate_1 _) (F.newCall_enumerate_1 _) (fun ob => F.args_object_init_2 ob _) F.entry_enumerate_new (newEnum B) ⟨y, ?_⟩
  show _ ∧ _
  rw [hz]
  have en := Heap.get?_push_size (s.heap.push o) (o := { cls := .type "enumerate", data := .fields #[.none, .bool false, .ref s.heap.objs.size, rawInt 0, .none, .none] }) rfl
  rw [hz] at en
  exact ⟨⟨_, en, rfl⟩, k _ en (Heap.get?_push_of_some _ (Heap.get?_push_size _ B.free)) fun b ob x => Heap.get?_push_of_some _ (Heap.get?_push_of_some _ x)⟩
end
/-- the tuple at a, each item in a new pair behind its number -/
def IteT (K : PySem.W.Frag) (a : Addr) : L2.It where
  go := fun i H => ∃ (xs : List V) (x : V), SqT K H a xs ∧ xs[i]? = some x
  yld := fun i H v H' => ∃ T x, v = .ref T ∧ H T = none ∧ H' = upd H T (.tup [.int (i : Nat), x]) ∧ ∀ xs, SqT K H a xs → xs[i]? = some x
  stop := fun i H => ∃ xs : List V, SqT K H a xs ∧ xs.length ≤ i
theorem enum_ne {h : Heap} {e it b : Addr} {c : Int} {old : Value} {t : Str} (he : IsEnum h e it c old) (hb : ∃ o, h.get? b = some o ∧ o.cls = .type "tuple" ∨ ∃ o, h.get? b = some o ∧ o.cls = .type "tuple_iterator") : e ≠ b := by
  rintro rfl
  obtain ⟨o, h1 | ⟨o, h1⟩⟩ := hb
  · have e1 := h1.1.symm.trans he
    cases e1
    exact absurd (Value.type.inj h1.2) (by decide)
  · have e1 := h1.1.symm.trans he
    cases e1
    exact absurd (Value.type.inj h1.2) (by decide)
theorem turn_enumT {P : Program} {w : World} {K : PySem.W.Frag} {elts : List Expr} {kk : Nat} {tpos : Pos} (a e it : Addr) :
    Turn P w K (.Tuple elts kk tpos) (IteT K a) [e, it] e (fun i h => (∃ old, IsEnum h e it ((i : Nat) : Int) old) ∧ h.IsTupleIter it a i) where
  mem := List.mem_cons_self
  obj := fun i h st b hb => by
    obtain ⟨⟨old, en⟩, o, ho, hc, hd⟩ := st
    rcases List.mem_cons.mp hb with rfl | hb
    · exact ⟨_, en, fun v q => nomatch q⟩
    · rw [List.mem_singleton.mp hb]
      exact ⟨o, ho, fun v q => by rw [hd] at q; cases q⟩
  keep := fun i h h2 st k => by
    obtain ⟨⟨old, en⟩, ti⟩ := st
    exact ⟨⟨old, k e (by simp) _ en⟩, ti.at fun o q => k it (by simp) o q⟩
  item := by
    intro X hP hw hK hc i pins s σ H E I hf st hg
    subst hP hw hK
    obtain ⟨⟨old, en⟩, ti⟩ := st
    obtain ⟨xs, x, hq, hx⟩ := hg
    obtain ⟨its, rv, p, hz⟩ := I.tuple hq
    obtain ⟨u, hu, ru⟩ := rv.get hx
    have p : s.heap.IsTuple a its.toArray := p
    have n1 : e ≠ it := enum_ne (t := "") en (by obtain ⟨o, ho, hcl, _⟩ := ti; exact ⟨o, .inr ⟨o, ho, hcl⟩⟩)
    have n2 : e ≠ a := enum_ne (t := "") en (by obtain ⟨o, ho, hcl, _⟩ := p; exact ⟨o, .inl ⟨ho, hcl⟩⟩)
    have n3 : a ≠ it := by
      rintro rfl
      obtain ⟨o, ho, hcl, _⟩ := p
      obtain ⟨o2, ho2, hcl2, _⟩ := ti
      rw [ho] at ho2
      cases ho2
      exact absurd (Value.type.inj (hcl.symm.trans hcl2)) (by decide)
    have lt : i < its.toArray.size := by
      have := (List.getElem?_eq_some_iff.mp hu).1
      simpa using this
    have size_e : e < s.heap.objs.size := Heap.lt_size en
    have size_i : it < s.heap.objs.size := by obtain ⟨_, q, _⟩ := ti; exact Heap.lt_size q
    refine wpAny_pyNext_enum_itemD (Draws.tuple (show X.A.in1.handled = none from I.ok.hd hc) it a n3 its.toArray) en ⟨ti, p⟩ lt n1 (by simp [n1, n2]) fun y h2 tk hy out st2 hT hsz hk => ?_
    have hyu : y = u := by
      have : its.toArray[i]? = some u := by simpa using hu
      rw [hy] at this
      exact Option.some.inj this
    subst hyu
    refine ⟨_, rfl, wpAny_letOwnedTupleGo_enum (s := { s with heap := h2, toks := tk + 1 }) out fun h3 en3 sb => ?_⟩
    have hT3 : h3.get? s.heap.objs.size = some { cls := .type "tuple", data := .seq #[.int i tk, y] } := (sb.2 _ (Nat.ne_of_gt size_e)).trans hT
    have fresh : ObjOk X.prog X.w (upd H s.heap.objs.size (.tup [.int (i : Nat), x])) h3 s.heap.objs.size (.tup [.int (i : Nat), x]) :=
      ⟨by show 2 ≤ sizeLine; decide, [.int i tk, y], .cons ⟨_, rfl⟩ (.cons ru .nil), ⟨_, hT3, rfl, _, rfl⟩⟩
    have I1 : Inv X pins σ (upd H s.heap.objs.size (.tup [.int (i : Nat), x])) { s with heap := h3, toks := tk + 1 } :=
      I.turnedNew (ch := [e, it]) (fun b ob hb q => (sb.2 b (fun z => hb (by simp [z]))).trans (hk b ob (fun z => hb (by simp [z])) (fun z => hb (by simp [z])) q)) hf (Nat.le_refl _) fresh
    refine ⟨.ref s.heap.objs.size, _, I1, rfl, ⟨_, x, rfl, I.hok.fresh (Nat.le_refl _), rfl, fun ys hy2 => by rw [I.tuple_inj hy2 hq]; exact hx⟩, ⟨⟨y, ?_⟩, st2.1.at fun o q => (sb.2 it (Ne.symm n1)).trans q⟩, fun b hb => ?_⟩
    · rw [show ((i + 1 : Nat) : Int) = (i : Int) + 1 by omega]
      exact en3
    · have lb : b < s.heap.objs.size := by
        rcases List.mem_cons.mp hb with rfl | hb
        · exact size_e
        · rw [List.mem_singleton.mp hb]; exact size_i
      rw [upd_ne (Nat.ne_of_lt lb)]
      exact (hf b hb).1
  done := by
    intro X hP hw hK hc i pins s σ H E I hf st hg
    subst hP hw hK
    obtain ⟨⟨old, en⟩, ti⟩ := st
    obtain ⟨xs, hq, hx⟩ := hg
    obtain ⟨its, rv, p, hz⟩ := I.tuple hq
    have p : s.heap.IsTuple a its.toArray := p
    obtain ⟨f0, f1, f2, f3, f4, f5⟩ := hf it (by simp)
    have lg := rv.length
    have n1 : e ≠ it := enum_ne (t := "") en (by obtain ⟨o, ho, hcl, _⟩ := ti; exact ⟨o, .inr ⟨o, ho, hcl⟩⟩)
    have none1 : its.toArray[i]? = none := by simp; omega
    have ty : s.TypeIs (.ref e) "enumerate" := ⟨_, en, rfl⟩
    unfold pyNext
    have nx : wpAny (model X.prog X.w) X.A.in1 (Builtin.SmallTypes.nextOf (.ref it)) (fun _ _ => False)
        (fun x s1 => ∃ h2 y, x = .ref y ∧ s1 = { s with heap := h2 } ∧ Heap.ExtBut it s.heap h2 ∧ ∃ o, h2.get? y = some o ∧ o.cls = .type "StopIteration") s :=
      wpAny_nextOf_tuple_end (show X.A.in1.handled = none from I.ok.hd hc) ti p none1 fun h2 y eb so => ⟨h2, y, rfl, rfl, eb, so⟩
    refine wpAny_bind (wpAny_attempt ?_)
    refine wpAny_callSpecial?_slot (name := "__next__") ty F.slot_enumerate_next ?_
    refine wpAny_call_entry F.slot_enumerate_next ty F.entry_enumerate_next ?_ (F.args_enumerate_next_1 _)
    show wpAny _ _ (field (.ref e) 2 >>= _) _ _ _
    refine wpAny_bind (wpAny_field en rfl (x := .ref it) rfl ?_)
    refine wpAny_bind (wpAny_mono nx (fun _ _ z => z.elim) fun x s1 z => ?_)
    obtain ⟨h2, y, rfl, rfl, eb, o, ho, hcl⟩ := z
    refine wpAny_bind (wpAny_isInstance (T := "StopIteration") (b := true) ⟨o, ho, hcl⟩ isSubtype_stop ?_)
    exact wpAny_pure ⟨rfl, I.turned (t' := s.toks) (fun b ob hb q => eb b ob hb q) f0 f1 f3 f4 f5⟩
  self := fun A i s Q E st h => by
    obtain ⟨⟨_, en⟩, _⟩ := st
    exact wpAny_pyIter_enum en h
/-- enumerate(a list | a tuple) -/
def iEnumA (K : PySem.W.Frag) (ta : TA) : TI := fun σ H R => ta σ H fun vs H1 => ∃ a xs, vs = [.ref a] ∧ ((SqL K H1 a xs ∧ R (Ite K a) H1) ∨ (SqT K H1 a xs ∧ R (IteT K a) H1))
theorem pi_enumA {X : Cx} {e : Expr} {ta : TA} {p pos tpos : Pos} {elts : List Expr} {kk : Nat} (hg : Gl X "enumerate") (hm : X.mg "enumerate" = none) (ha : PA X [e] ta) (hs : starEach [e] X.env = [(false, eval e X.env)]) :
    PI X (.Tuple elts kk tpos) (.Call (.Name "enumerate" p) [e] [] pos) (iEnumA X.K ta) := by
  refine ⟨fun pins s σ H R I h => Call_ (ld_blt I hg hm boot_enumerate (PyProof.Rows.callWith_type1 (thn (ha.run pos pins s σ H _ I h) fun us s1 z => ?_) hs rfl))⟩
  obtain ⟨vs, H1, I1, r1, a, xs, rfl, q⟩ := z
  cases r1 with
  | cons r rr =>
    cases rr
    cases r
    have addr : ∀ b ∈ [s1.heap.objs.size + 1, s1.heap.objs.size], s1.heap.objs.size ≤ b := fun b hb => by
      rcases List.mem_cons.mp hb with rfl | hb
      · exact Nat.le_succ _
      · rw [List.mem_singleton.mp hb]; exact Nat.le_refl _
    rcases q with ⟨hq, q⟩ | ⟨hq, q⟩
    · obtain ⟨its, rv, p2, hz⟩ := I1.list hq
      refine call_enumerate_list p2.isList fun h2 en li hsz hk => wpAny_pyIter_enum en ?_
      have I2 : Inv X pins σ H1 { s1 with heap := h2 } := I1.kept (t' := s1.toks) hk
      exact ⟨_, [s1.heap.objs.size + 1, s1.heap.objs.size], _, _, H1, rfl, I2, turn_enum a _ s1.heap.objs.size, ⟨⟨.none, en⟩, li, Nat.succ_ne_self _⟩, fun b hb => I1.fpOk (addr b hb) (I1.hok.fresh (addr b hb)), q⟩
    · obtain ⟨its, rv, p2, hz⟩ := I1.tuple hq
      refine enumOf (begins_tuple a its.toArray) p2 fun h2 en li hk => wpAny_pyIter_enum en ?_
      have I2 : Inv X pins σ H1 { s1 with heap := h2 } := I1.kept (t' := s1.toks) hk
      exact ⟨_, [s1.heap.objs.size + 1, s1.heap.objs.size], _, _, H1, rfl, I2, turn_enumT a _ s1.heap.objs.size, ⟨⟨.none, en⟩, ⟨_, li, rfl, rfl⟩⟩, fun b hb => I1.fpOk (addr b hb) (I1.hok.fresh (addr b hb)), q⟩
end EV
/-! a set of ints by a comprehension -/
namespace EV
open PySem PySem.Spec PyProof.Rows L2
/-- what a turn must give: the int goes into the set at D -/
def SetTurn (w : World) (D : Addr) (N : Hp → Prop) (y : V) (G : Hp) : Prop := ∃ (c : Int) (M : Int → Bool) (n : Nat), y = .int c ∧ G D = some (SetO w D M n) ∧ n + 1 < scanBound ∧ N (upd G D (SetO w D (fun j => M j || decide (j = c)) (if M c = true then n else n + 1)))
/-- the loop's ways: it stops, or goes on -/
def SetWay (w : World) (J : L2.It) (g : TG) (te : TE) (own : List Nat) (σ : L2.St) (D : Addr) (Q : VK) (W : Nat → Nat → Hp → Prop) : Prop := ∀ i m G, W i m G →
  (J.stop i G ∧ Q (.ref D) G) ∨ (J.go i G ∧ ∃ N : Hp → Prop, (∀ G2, N G2 → ∃ m2, m2 < m ∧ W (i + 1) m2 G2) ∧ ∀ x G1, J.yld i G x G1 → g x (wipe σ own) G1 fun τ G2 => wipe τ own = wipe σ own ∧ te τ G2 fun y G3 => SetTurn w D N y G3)
/-- {e for t in it}, e an int -/
def tScI (w : World) (wi : TI) (g : TG) (te : TE) (own : List Nat) : TE := fun σ H Q => wi σ H fun J G => ∀ D, G D = none → ∃ W : Nat → Nat → Hp → Prop, (∃ m, W 0 m (upd G D (SetO w D (fun _ => false) 0))) ∧ SetWay w J g te own σ D Q W
section
variable {X : Cx}
theorem addI_ok {pins : List (Addr × Obj)} {τ : L2.St} {G : Hp} {sh : Shared} {F : Value → Shared → Prop} {D : Addr} {M : Int → Bool} {n : Nat} {c : Int} {tk : Tok} {Q : Value → Shared → Prop} (I : Inv X pins τ G sh) (hD : G D = some (SetO X.w D M n)) (room : n + 1 < scanBound)
    (k : ∀ s2, Inv X pins τ (upd G D (SetO X.w D (fun j => M j || decide (j = c)) (if M c = true then n else n + 1))) s2 → Q .none s2) : wpAny (model X.prog X.w) X.A (call (.builtin "set.add") [.ref D, .int c tk]) Q F sh :=
  setR_add (setO_get I hD) room fun h2 sb new => by
    have there : ∃ u, h2.get? D = some u := by
      obtain ⟨o, _, _, _, ho, _⟩ := new
      exact ⟨o, ho⟩
    exact k _ (I.write (e := D) (t' := sh.toks + 1) (by rw [hD]; trivial) (.inl rfl) (fun b u nb eu => (sb.2 b nb).trans eu) there (setO_new new))
/-- the block's loop -/
theorem scI_core {pins : List (Addr × Obj)} {sh : Shared} {σ : L2.St} {H : Hp} {Q : VK} {e tg it : Expr} {scope : Scope} {own : List (PySem.Str × Nat)} {pos pos2 : Pos} {wi : TI} {g : TG} {te : TE} {use : Option (Value → Sem Unit)} {Qf : Value → Shared → Prop}
    (calm : X.calm = true) (nd : X.N.Nodup) (I : Inv X pins σ H sh) (pi : PI X tg it wi) (blk : BlkOk X.N X.env.scope scope own)
    (hg : ∀ (z : Shared) (G : Hp) (C : Addr) (cl : List (PySem.Str × Addr)) (fp : List Addr), PG (X.blk z G scope (compEnvC scope cl C X.env) fp) tg g)
    (he : ∀ (z : Shared) (G : Hp) (C : Addr) (cl : List (PySem.Str × Addr)) (fp : List Addr), PE (X.blk z G scope (compEnvC scope cl C X.env) fp) e te)
    (fold : ∀ x, foldedSetIterable it X.env x = pure x) (want : tScI X.w wi g te (own.map (·.2)) σ H Q)
    (back : ∀ D C z m G, Inv X pins σ G z → Q (.ref D) G → z.heap.Ns C m → FpOk X pins G C → compPost (model X.prog X.w) X.A X.xe use Qf (.ref D) C (.ok .next) z) :
    wpAny (model X.prog X.w) X.A (comprehension (.SetComp e [⟨tg, it, [], 0⟩] scope pos) scope X.env pos2 (newSet (.type "set")) false (eval it X.env) use) Qf X.xe sh := by
  have frees : ∀ y ∈ scope.names, y.2 = .free → ∃ c, X.env.cells.lookup y.1 = some c := fun y hy q => (blk.free y hy q).elim (fun k => I.ok.has _ (.inl k)) (fun k => I.ok.has _ (.inr k))
  refine wpAny_comprehension_free (use := use) rfl fold (closure_ok frees) blk.kind (fun y hy q => by rw [blk.uniq y hy, q]) ?_
  refine thn (pi.run pins sh σ H _ I want) fun xv z1 hx => thn hx fun itv z2 came => ?_
  obtain ⟨ia, fp, tn, J, G2, rfl, I2, Tn, at2, ok2, want2⟩ := came
  refine PpSet.newSet_ok (newEnv_comp ?_)
  obtain ⟨D, eD⟩ : ∃ D, z2.heap.objs.size = D := ⟨_, rfl⟩
  rw [eD]
  obtain ⟨W, ⟨m0, w0⟩, way⟩ := want2 D (I2.hok.fresh (Nat.le_of_eq eD))
  obtain ⟨z3, e3⟩ : ∃ z3, z3 = ({ z2 with heap := z2.heap.push { cls := .type "set", dict := none, data := .set #[] 0 (.fresh 0 0 (!X.w.params.followText "set-order")) } } : Shared) := ⟨_, rfl⟩
  rw [← e3]
  have hp3 : z3.heap = z2.heap.push { cls := .type "set", dict := none, data := .set #[] 0 (.fresh 0 0 (!X.w.params.followText "set-order")) } := by rw [e3]
  have I3 : Inv X pins σ (upd G2 D (SetO X.w D (fun _ => false) 0)) z3 := by
    rw [e3]
    refine I2.laid (t' := z2.toks) (fun b o q => Heap.get?_push_of_some _ q) (Nat.le_of_eq eD) ?_
    rw [← eD]
    exact setO_new (setR_fresh X.w)
  have low : ∀ b ∈ fp, b < z2.heap.objs.size := fun b hb => by
    obtain ⟨o, q, _⟩ := Tn.obj _ _ at2 b hb
    exact Heap.lt_size q
  have ok3 : ∀ b ∈ fp, FpOk X pins (upd G2 D (SetO X.w D (fun _ => false) 0)) b ∧ b < z3.heap.objs.size := fun b hb => by
    have lt := low b hb
    have ne : b ≠ D := by rw [← eD]; exact Nat.ne_of_lt lt
    exact ⟨⟨by rw [upd_ne ne]; exact (ok2 b hb).1, (ok2 b hb).2⟩, by rw [hp3, Heap.size_push]; exact Nat.lt_succ_of_lt lt⟩
  have at3 : tn 0 z3.heap := Tn.keep _ _ _ at2 fun b _ o q => by rw [hp3]; exact Heap.get?_push_of_some _ q
  have I4 := block_start I3 blk nd ok3
  obtain ⟨G3, eG⟩ : ∃ G3, upd G2 D (SetO X.w D (fun _ => false) 0) = G3 := ⟨_, rfl⟩
  rw [eG] at I3 I4 w0 ok3
  obtain ⟨C, eC⟩ : ∃ C, z3.heap.objs.size = C := ⟨_, rfl⟩
  obtain ⟨cl, ecl⟩ : ∃ cl, cellsFrom (z3.heap.objs.size + 1) scope.names (cloFrom X.env.cells scope.names []) = cl := ⟨_, rfl⟩
  have pg := hg z3 G3 C cl fp
  have pe := he z3 G3 C cl fp
  obtain ⟨ce, ece⟩ : ∃ ce, compEnvC scope cl C X.env = ce := ⟨_, rfl⟩
  obtain ⟨z4, e4⟩ : ∃ z4, z4 = ({ z3 with heap := pushCells (z3.heap.push { cls := .type "dict", data := .dict #[] }) scope.names } : Shared) := ⟨_, rfl⟩
  show codeAny _ _ (.compStart (.SetComp e [⟨tg, it, [], 0⟩] scope pos) 0 (.ref ia) (.ref D) (compEnvC scope (cellsFrom (z3.heap.objs.size + 1) scope.names (cloFrom X.env.cells scope.names [])) z3.heap.objs.size X.env))
    (compPost (model X.prog X.w) X.A X.xe use Qf (.ref D) z3.heap.objs.size) { z3 with heap := pushCells (z3.heap.push { cls := .type "dict", data := .dict #[] }) scope.names }
  rw [← e4, ecl, eC, ece]
  rw [← e4, ecl, eC, ece] at I4
  rw [ece] at pg pe
  have loc : ce.locals = C := by rw [← ece]; rfl
  have none3 : ∀ b ∈ fp, G3 b = none := fun b hb => (ok3 b hb).1.1
  have at4 : tn 0 z4.heap := Tn.keep _ _ _ at3 fun b _ o q => by rw [e4]; exact pushCells_keeps _ _ _ _ (Heap.get?_push_of_some _ q)
  have stand : ∀ {τ : L2.St} {G : Hp} {z : Shared}, Inv (X.blk z3 G3 scope ce fp) [] τ G z → (∀ b ∈ fp, G b = none) → ∀ b ∈ fp, FpOk (X.blk z3 G3 scope ce fp) [] G b := fun {τ G z} I5 no b hb =>
    ⟨no b hb, (I5.ok.exf b hb).1, I5.ok.exfs b hb, .inl hb, fun x c q => (I5.ok.exf b hb).2 x c q, fun p hp => absurd (show p ∈ ([] : List (Addr × Obj)) ++ [] from hp) (by simp)⟩
  have main : codeAny (model X.prog X.w) X.A (.compLoop (.SetComp e [⟨tg, it, [], 0⟩] scope pos) 0 (.ref ia) (.ref D) ce) (compPost (model X.prog X.w) X.A X.xe use Qf (.ref D) C) z4 := by
    refine PpSet.compLoopS_any (fun n z => ∃ i G, Inv (X.blk z3 G3 scope ce fp) [] (wipe σ (own.map (·.2))) G z ∧ tn i z.heap ∧ (∀ b ∈ fp, G b = none) ∧ W i n G) ?_ m0 ⟨0, G3, I4, at4, none3, w0⟩
    rintro n z5 ⟨i, G5, I5, at5, none5, w5⟩
    rcases way i n G5 w5 with ⟨stop, fin⟩ | ⟨go, N, less, turn⟩
    · refine thnF (Tn.done (X.blk z3 G3 scope ce fp) rfl rfl rfl calm i [] z5 _ G5 (fun _ _ => False) I5 (stand I5 none5) at5 stop) fun r z6 over => ?_
      obtain ⟨rfl, I6⟩ := over
      have I7 : Inv X pins σ G5 z6 := I3.call' (ch := fp) I6.os I6.base I6.hok I6.bare fun b hb => by
        obtain ⟨⟨_, q1, q2, q3, q4, q5⟩, _⟩ := ok3 b hb
        exact ⟨q3, q1, q4, q5⟩
      have noC : G5 C = none := by
        have q : G5 ce.locals = none := I6.free
        rwa [loc] at q
      obtain ⟨m, ns, _⟩ := I6.loc
      have ns : z6.heap.Ns ce.locals m := ns
      rw [loc] at ns
      exact back D C z6 m G5 I7 fin ns (I3.fpOk (Nat.le_of_eq eC) noC)
    · refine thnF (Tn.item (X.blk z3 G3 scope ce fp) rfl rfl rfl calm i [] z5 _ G5 (fun _ _ => False) I5 (stand I5 none5) at5 go) fun r z6 item => ?_
      obtain ⟨u, rfl, item⟩ := item
      refine thnF item fun _ z7 got => ?_
      obtain ⟨x, G7, I7, r7, y7, at7, none7⟩ := got
      have P7 := I7.pinned (stand I7 none7) (Tn.obj _ _ at7)
      refine thnF (pg.run _ z7 _ G7 x u _ P7 r7 (turn x G7 y7)) fun _ z8 set => ?_
      obtain ⟨τ, G8, I8, wp8, q8⟩ := set
      have same : (wipe σ (own.map (·.2))).length = τ.length := by rw [← wp8, wipe_length]
      show wpAny (model X.prog X.w) X.A (pure true) _ _ z8
      refine wpAny_pure ?_
      rw [if_pos rfl]
      refine thnF (pe.run _ z8 τ G8 _ I8 q8) fun v z9 out => ?_
      obtain ⟨yv, G9, I9, r9, c, M, n0, rfl, hD9, room, nx⟩ := out
      obtain ⟨tk, rfl⟩ := r9
      refine addI_ok (X := X.blk z3 G3 scope ce fp) I9 hD9 room fun z10 I10 => ?_
      obtain ⟨m2, lt, w2⟩ := less _ nx
      have pinned : ∀ b ∈ fp, ∀ o, z7.heap.get? b = some o → z10.heap.get? b = some o ∧ upd G9 D (SetO X.w D (fun j => M j || decide (j = c)) (if M c = true then n0 else n0 + 1)) b = none := fun b hb o q =>
        ⟨(I10.pin (b, o) (List.mem_append_right _ (List.mem_append_right _ (mem_pinsAt hb q)))).1, (I10.pin (b, o) (List.mem_append_right _ (List.mem_append_right _ (mem_pinsAt hb q)))).2.1⟩
      refine ⟨m2, lt, i + 1, _, (I10.unpinned (pins := [])).weak same (fun j v q => ?_), Tn.keep _ _ _ at7 fun b hb o q => (pinned b hb o q).1, fun b hb => ?_, w2⟩
      · rw [← wp8] at q
        exact (wipe_some q).1
      · obtain ⟨o, q, _⟩ := Tn.obj _ _ at7 b hb
        exact (pinned b hb o q).2
  exact PpSet.codeAny_compStart_set main (Tn.self X.A 0 _ _ _ at4 main)
theorem pe_scI {e tg it : Expr} {scope : Scope} {own : List (PySem.Str × Nat)} {pos : Pos} {wi : TI} {g : TG} {te : TE} (calm : X.calm = true) (nd : X.N.Nodup) (pi : PI X tg it wi) (blk : BlkOk X.N X.env.scope scope own)
    (hg : ∀ (z : Shared) (G : Hp) (C : Addr) (cl : List (PySem.Str × Addr)) (fp : List Addr), PG (X.blk z G scope (compEnvC scope cl C X.env) fp) tg g)
    (he : ∀ (z : Shared) (G : Hp) (C : Addr) (cl : List (PySem.Str × Addr)) (fp : List Addr), PE (X.blk z G scope (compEnvC scope cl C X.env) fp) e te)
    (fold : ∀ x, foldedSetIterable it X.env x = pure x) : PE X (.SetComp e [⟨tg, it, [], 0⟩] scope pos) (tScI X.w wi g te (own.map (·.2))) := by
  refine ⟨fun pins sh σ H Q I want => ?_⟩
  rw [PpSet.eval_SetComp]
  refine scI_core calm nd I pi blk hg he fold want fun D C z m G I2 q ns ok => ⟨m, ns, fun h2 sb => ?_⟩
  obtain ⟨f0, f1, f2, f3, f4, f5⟩ := ok
  exact ⟨.ref D, G, I2.turned (t' := z.toks) (fun b o nb q => (sb.2 b nb).trans q) f0 f1 f3 f4 f5, rfl, q⟩
end
end EV
namespace EV
open PySem L2
/-! ### the skeleton as readings -/
def iSeq (K : PySem.W.Frag) (tl : TE) : TI := fun σ H R => tl σ H fun x H1 => ∃ a, x = .ref a ∧ ((∃ xs, SqL K H1 a xs ∧ R (Itl K a) H1) ∨ (∃ xs, SqT K H1 a xs ∧ R (Itt K a) H1))
section
variable (K : Kx) (XR : PySem.W.Frag) (Φ : Nat → FD)
/-- a def that does what sem says -/
def spF (n : Nat) (sem : List D → R D) : Sp := fun vs H Q E => vs.length = n ∧ ∃ S ds, Same S H ∧ Owns K S H ds vs [] ∧ isZs ds = true ∧ Kont XR E H (sem ds) fun d => KE K S H d Q
/-- an __init__ that makes of the new instance what sem says -/
def spI (c : Str) (n : Nat) (sem : List D → R D) : Sp := fun vs H Q E => vs.length = n ∧ ∃ p dx ws Hb S ds, vs = .ref p :: ws ∧ Hb p = none ∧ Hb dx = none ∧ dx ≠ p ∧ H = upd (upd Hb dx (.own p)) p (.ins (He.ga K c) dx []) ∧
  Same S Hb ∧ Owns K S Hb ds ws [] ∧ isZs ds = true ∧ Kont XR E Hb (sem ds) fun d => ∀ S' H' B, Fut S Hb S' H' → Own K S' H' d (.ref p) B → Fresh Hb S' B → Q .non H'
/-- an error's __init__: what it makes of the new exception -/
def spX (c : Str) (n : Nat) (sem : List D → R D) : Sp := fun vs H Q _ => vs.length = n ∧ ∃ p ws Hb ds ks es us, vs = .ref p :: ws ∧ Hb p = none ∧ H = upd Hb p (exo p (He.ga K c) none) ∧ flats ds = some ws ∧ sem ds = .ok (.obj .z c ks es) ∧
  flats es = some us ∧ ks.length = us.length ∧ ∀ H' d, Same Hb H' → H' p = some (exo p (He.ga K c) (some d)) → H' d = some (exd d (ks.zip us)) → Hb d = none → Q .non H'
/-- e.n, a field of an instance of the class at C -/
def tFldC (C : Addr) (n : Str) (ta : TE) : TE := fun σ H Q => ta σ H fun x H1 => ∃ a dx fs v, x = .ref a ∧ H1 a = some (.ins C dx fs) ∧ fs.lookup n = some v ∧ Q v H1
def tMakeS (C : Addr) (sp : Sp) (E : St → XK) (t : TA) : TE := fun σ H Q => t σ H fun vs H1 => ∀ x dx, H1 x = none → H1 dx = none → dx ≠ x → sp (.ref x :: vs) (upd (upd H1 dx (.own x)) x (.ins C dx [])) (fun v H2 => v = .non ∧ Q (.ref x) H2) (E σ)
def tPropS (C : Addr) (sp : Sp) (ta : TE) : TE := fun σ H Q => ta σ H fun x H1 => ∃ a dx fs, x = .ref a ∧ H1 a = some (.ins C dx fs) ∧ sp [.ref a] H1 Q (fun _ _ _ => False)
def tMethS (C : Addr) (m : Str) (sp : Sp) (E : St → XK) (ta : TE) (t : TA) : TE := fun σ H Q => ta σ H fun x H1 => ∃ a dx fs, x = .ref a ∧ H1 a = some (.ins C dx fs) ∧ fs.lookup m = none ∧ t σ H1 fun vs H2 => sp (x :: vs) H2 Q (E σ)
/-- x in range(lo, hi) -/
def rInR (neg : Bool) : R2 := fun x y H Q => ∃ i a lo hi, x = V.int i ∧ y = V.ref a ∧ H a = some (.rng lo hi) ∧ Q (.bl (if neg then !decide (lo ≤ i ∧ i < hi) else decide (lo ≤ i ∧ i < hi))) H
def tRng (to : TO) (tb : TE) : TE := fun σ H Q => to σ H fun l H1 => tb σ H1 fun y H2 => ∃ j, y = .int j ∧ ∀ p, H2 p = none → Q (.ref p) (upd H2 p (.rng (l.getD 0) j))
/-- a class, as a value -/
def clsV (K : PySem.W.Frag) (c : Str) : V := if c = "ValueError" then .ty "ValueError" else .ref (He.ga K c)
def clsU (K : PySem.W.Frag) (c : Str) : Value := if c = "ValueError" then .type "ValueError" else .ref (He.ga K c)
/-- isinstance(e, c), e the exception that is handled -/
def rIsX (K : PySem.W.Frag) (q : XQ) (c : Str) : List V → Hp → VK → Prop := fun xs H Q => ∃ (D : Addr) (b : Bool), xs = [.ref q.a, clsV K c] ∧ q.cls = .ref D ∧ ExcC K D ∧ (q.d = none ∨ ∃ dd fs, q.d = some dd ∧ H dd = some (.xd fs) ∧ fs.lookup ("__class__" : Str) = none) ∧ PySem.W.kitOne K (.ref D) (clsU K c) = some b ∧ Q (.bl b) H
abbrev SX := St → XK
def E0' : SX := fun _ _ _ _ => False
mutual
def tE (E : SX) : C → TE
  | .slot i => tVar i
  | .non => tC .non | .bl b => tC (.bl b) | .int i => tC (.int i) | .str s => tC (.str s)
  | .bin op a b => tOp (rBin K op) (tE E a) (tE E b)
  | .neg a => tUn (rU fun i => .int (-i)) (tE E a)
  | .cmp op a b => tOp (rCmp K op) (tE E a) (tE E b)
  | .chain op op' a b c => tChain (rCmp K op) (rCmp K op') (tE E a) (tE E b) (tE E c)
  | .isN n a => if n then tNotN (tE E a) else tIsN (tE E a)
  | .and es => tAnds E es
  | .or es => tOrs E es
  | .not a => tNotV (tE E a)
  | .ite c a b => tIf (tT E c) (tE E a) (tE E b)
  | .tup es => tTup (tA E es)
  | .lst es => tLst (tA E es)
  | .dic => tDNewK
  | .dit => tDNewT
  | .dic1 k v => tDisp [(tE E k, tE E v)]
  | .ix a b => tOp (rIxA K) (tE E a) (tE E b)
  | .cut a lo hi => tSl (rSlA K) (tE E a) (tO E lo) (tO E hi)
  | .blt b a => tCB (rB K b) (tCons (tE E a) tNil)
  | .isi ty a => tCB (rIsi K) (tCons (tE E a) (tCons (tC (.ty ty)) tNil))
  | .call f es => tCallS (spF K XR (Φ f).n (Φ f).sem) E (tA E es)
  | .comp it tg own c e => tLc (tI E it) (gT K tg) (tTo E0' c) (tE E0' e) own
  | .dcomp it tg own k e => tDc (tI E it) (gT K tg) tYes (tE E0' k) (tE E0' e) own
  | .sset it tg own e => fun σ H Q => ∀ w, tCB (rSortedSet w) (tCons (tScI w (tI E it) (gT K tg) (tE E0' e) own) tNil) σ H Q
  | .mn a b => tCB (fun xs H Q => ∃ i j, xs = [.int i, .int j] ∧ Q (.int (if j < i then j else i)) H) (tCons (tE E a) (tCons (tE E b) tNil))
  | .flt c i t => tLc (iSeq K (tE E c)) (gName i) (tT E0' t) (tVar i) [i]
  | .fld c n a => tFldC (He.ga K c) n (tE E a)
  | .ccon _ _ i => tC (.int i)
  | .isC c a => tCB (rIsi K) (tCons (tE E a) (tCons (tC (.ref (He.ga K c))) tNil))
  | .make c f es => tMakeS (He.ga K c) (spI K XR c (Φ f).n (Φ f).sem) E (tA E es)
  | .prop c _ f a => tPropS (He.ga K c) (spF K XR (Φ f).n (Φ f).sem) (tE E a)
  | .meth c n f a es => tMethS (He.ga K c) n (spF K XR (Φ f).n (Φ f).sem) E (tE E a) (tA E es)
  | .smeth _ _ f es => tCallS (spF K XR (Φ f).n (Φ f).sem) E (tA E es)
  | .inO n c f a b => tOp (rInOwn (He.ga K c) (spF K XR (Φ f).n (Φ f).sem) (fun _ _ _ => False) n) (tE E a) (tE E b)
  | .eqO n c f a b => tOp (rEqOwn K (He.ga K c) (spF K XR (Φ f).n (Φ f).sem) (fun _ _ _ => False) n) (tE E a) (tE E b)
  | .inR n a lo hi => tOp (rInR n) (tE E a) (tRng (tO E lo) (tE E hi))
  | .isX c i => tCB (rIsX K K.q c) (tCons (tVar i) (tCons (tC (clsV K c)) tNil))
  | .xfld c n i => tXf K.q.a K.q.cls K.q.d (He.ga K c) n (tVar i)
def tA (E : SX) : Cs → TA
  | .nil => tNil
  | .cons c cs => tCons (tE E c) (tA E cs)
def tO (E : SX) : Co → TO
  | .none => tNoPart
  | .some c => tPart (tE E c)
def tTo (E : SX) : To → TT
  | .none => tYes
  | .some t => tT E t
def tT (E : SX) : T → TT
  | .v c => fun σ H Q => tE E c σ H fun x H' => ∃ k, TruV K x H' k ∧ Q k H'
  | .b c => tTest (tE E c)
  | .not t => tNot (tT E t)
  | .and ts => tTA E ts
  | .or ts => tTO E ts
def tTA (E : SX) : Ts → TT
  | .nil => tYes
  | .cons t ts => tAnd (tT E t) (tTA E ts)
def tTO (E : SX) : Ts → TT
  | .nil => fun _ H Q => Q false H
  | .cons t ts => tOr (tT E t) (tTO E ts)
def tAnds (E : SX) : Cs → TE
  | .nil => tC (.bl true)
  | .cons c cs => tAndV (tE E c) (tAnds E cs)
def tOrs (E : SX) : Cs → TE
  | .nil => tC (.bl false)
  | .cons c cs => tOrV (tE E c) (tOrs E cs)
def tI (E : SX) : It → TI
  | .r1 a => iRng1 (tCons (tE E a) tNil)
  | .r2 a b => iRng2 (tCons (tE E a) (tCons (tE E b) tNil))
  | .seq c => iSeq K (tE E c)
  | .enum c => iEnumA K (tCons (tE E c) tNil)
end
end
variable {K : Kx} {S S' H H' S0 H0 S1 H1 : Hp} {σ : St} {env env' : Env} {As : Nat → List Addr} {E : XK} {XR : PySem.W.Frag} {Φ : Tab}
/-- what a loop's iterator is, over the items ds -/
structure ItOk (K : Kx) (J : L2.It) (P : Hp → Prop) (S : Hp) (ds : List D) : Prop where
  go : ∀ i H, P H → i < ds.length → J.go i H
  stop : ∀ i H, P H → ds.length ≤ i → J.stop i H
  yld : ∀ i H x H' d S1, P H → J.yld i H x H' → ds[i]? = some d → Same S S1 → Same S1 H → ∃ S2, Fut S1 H S2 H' ∧ Own K S2 H' d x []
def stays (lv : Bool) (S H : Hp) : Hp → Prop := fun H2 => Same S H2 ∧ (lv = true → Same H H2)
def KI (K : Kx) (lv : Bool) (S H : Hp) (ds : List D) (R : L2.It → Hp → Prop) : Prop := ∀ J S' H', Fut S H S' H' → ItOk K J (stays lv S' H') S' ds → (lv = true ∨ isZs ds = true) → R J H'
/-- what a callee hands back that looked at held things -/
theorem backC {d : D} {v : V} {B' : List Addr} (f1 : Fut S0 H0 S H) (g : Fut H H S' H') (od : Own K S' H' d v B') (fr : Fresh H S' B') : ∃ S2, Fut S H S2 H' ∧ Own K S2 H' (taint d) v B' ∧ Fresh H0 S2 B' := by
  let S2 : Hp := fun a => match S' a with
    | some (.tup xs) => some (.tup xs)
    | some (.frz o (.tup xs)) => some (.frz o (.tup xs))
    | some (.frz o (.lst xs)) => some (.frz o (.lst xs))
    | some (.xd fs) => some (.xd fs)
    | _ => S a
  have hs : ∀ a o, S2 a = some o → S' a = some o ∨ S a = some o := fun a o e => by
    simp only [S2] at e
    split at e <;> first | (rename_i h; left; rw [h]; exact e) | exact .inr e
  have hI : ∀ a o, S' a = some o → Imm o → S2 a = some o := fun a o e i => by
    simp only [S2]
    split
    · rename_i h; rw [h] at e; exact e
    · rename_i h; rw [h] at e; exact e
    · rename_i h; rw [h] at e; exact e
    · rename_i h; rw [h] at e; exact e
    · rename_i h1 h3 h4 h5
      exfalso
      cases o <;> try exact i
      · exact h1 _ e
      · exact h5 _ e
      · rename_i ob u
        cases u <;> try exact i
        · exact h4 _ _ e
        · exact h3 _ _ e
  have hS' : Same S S' := fun a o e => g.st a o (f1.sub a o e)
  have hSS : Same S S2 := fun a o e => by
    simp only [S2]
    split
    · rename_i h; rw [hS' a o e] at h; exact h.symm
    · rename_i h; rw [hS' a o e] at h; exact h.symm
    · rename_i h; rw [hS' a o e] at h; exact h.symm
    · rename_i h; rw [hS' a o e] at h; exact h.symm
    · exact e
  refine ⟨S2, ⟨g.hp, hSS, fun a o e => ?_, fun a o e => ?_⟩, Own.taint hI g.sub d v B' od, ⟨fr.nd, fun p hp => ⟨Same.none f1.hp (fr.new p hp).1, ?_⟩⟩⟩
  · rcases hs a o e with h | h
    · exact g.sub a o h
    · exact g.hp a o (f1.sub a o h)
  · simp only [S2] at e
    have key : ∀ o', S' a = some o' → Imm o' → S a = some o' ∨ H a = none ∨ (H a = some o' ∧ Imm o') := fun o' h i => by
      rcases g.new a o' h with z | z | z
      · exact .inr (.inr ⟨z, i⟩)
      · exact .inr (.inl z)
      · exact .inr (.inr z)
    split at e
    · rename_i h; cases e; exact key _ h trivial
    · rename_i h; cases e; exact key _ h trivial
    · rename_i h; cases e; exact key _ h trivial
    · rename_i h; cases e; exact key _ h trivial
    · exact .inl e
  · cases e : S2 p with
    | none => rfl
    | some u =>
      exfalso
      rcases hs p u e with h | h
      · rw [(fr.new p hp).2] at h; cases h
      · have := f1.sub p u h
        rw [(fr.new p hp).1] at this; cases this
/-- what stands for ever, all but the held instances -/
def noIns (S H : Hp) : Hp := fun a => match H a with
  | some (.ins _ _ _) => S a
  | o => o
theorem noIns_sub (s : Same S H) : Same (noIns S H) H := fun a o e => by
  simp only [noIns] at e
  split at e
  · exact s a o e
  · exact e
theorem noIns_st (s : Same S H) : Same S (noIns S H) := fun a o e => by
  simp only [noIns]
  split
  · exact e
  · exact s a o e
theorem noIns_non (a : Addr) (o : HO) (e : H a = some o) (n : ∀ C dx fs, o ≠ .ins C dx fs) : noIns S H a = some o := by
  simp only [noIns]
  split
  · rename_i h
    rw [h] at e
    cases e
    exact absurd rfl (n _ _ _)
  · exact e
theorem noIns_ins {a C dx : Addr} {fs : List (Str × V)} (e : noIns S H a = some (.ins C dx fs)) : S a = some (.ins C dx fs) := by
  simp only [noIns] at e
  split at e
  · exact e
  · rename_i h
    exact absurd e (h _ _ _)
theorem backL {d : D} {v : V} {B' : List Addr} (f1 : Fut S0 H0 S H) (g : Fut (noIns S H) H S' H') (od : Own K S' H' d v B') (fr : Fresh H S' B') : ∃ S2, Fut S H S2 H' ∧ Own K S2 H' (taintL d) v B' ∧ Fresh H0 S2 B' := by
  let S2 : Hp := fun a => match S' a with
    | some (.tup xs) => some (.tup xs)
    | some (.frz o (.tup xs)) => some (.frz o (.tup xs))
    | some (.frz o (.lst xs)) => some (.frz o (.lst xs))
    | some (.xd fs) => some (.xd fs)
    | some (.ins C dx fs) => some (.ins C dx fs)
    | _ => S a
  have hs : ∀ a o, S2 a = some o → S' a = some o ∨ S a = some o := fun a o e => by
    simp only [S2] at e
    split at e <;> first | (rename_i h; left; rw [h]; exact e) | exact .inr e
  have hO : ∀ a C dx fs, S' a = some (.ins C dx fs) → S2 a = some (.ins C dx fs) := fun a C dx fs e => by simp only [S2, e]
  have hI : ∀ a o, S' a = some o → Imm o → S2 a = some o := fun a o e i => by
    cases o <;> try exact i.elim
    · simp only [S2, e]
    · simp only [S2, e]
    · rename_i ob u
      cases u <;> try exact i.elim
      · simp only [S2, e]
      · simp only [S2, e]
  have hS' : Same S S' := fun a o e => g.st a o (noIns_st f1.sub a o e)
  have hSS : Same S S2 := fun a o e => by
    simp only [S2]
    split
    · rename_i h; rw [hS' a o e] at h; exact h.symm
    · rename_i h; rw [hS' a o e] at h; exact h.symm
    · rename_i h; rw [hS' a o e] at h; exact h.symm
    · rename_i h; rw [hS' a o e] at h; exact h.symm
    · rename_i h; rw [hS' a o e] at h; exact h.symm
    · exact e
  refine ⟨S2, ⟨g.hp, hSS, fun a o e => ?_, fun a o e => ?_⟩, Own.taintL hI hO g.sub d v B' od, ⟨fr.nd, fun p hp => ⟨Same.none f1.hp (fr.new p hp).1, ?_⟩⟩⟩
  · rcases hs a o e with h | h
    · exact g.sub a o h
    · exact g.hp a o (f1.sub a o h)
  · simp only [S2] at e
    have key : ∀ o', S' a = some o' → Imm o' → S a = some o' ∨ H a = none ∨ (H a = some o' ∧ Imm o') := fun o' h i => by
      rcases g.new a o' h with z | z | z
      · exact .inr (.inr ⟨noIns_sub f1.sub a o' z, i⟩)
      · exact .inr (.inl z)
      · exact .inr (.inr z)
    split at e
    · rename_i h; cases e; exact key _ h trivial
    · rename_i h; cases e; exact key _ h trivial
    · rename_i h; cases e; exact key _ h trivial
    · rename_i h; cases e; exact key _ h trivial
    · rename_i h
      cases e
      rcases g.new a _ h with z | z | z
      · exact .inl (noIns_ins z)
      · exact .inr (.inl z)
      · exact z.2.elim
    · exact .inl e
  · cases e : S2 p with
    | none => rfl
    | some u =>
      exfalso
      rcases hs p u e with h | h
      · rw [(fr.new p hp).2] at h; cases h
      · have := f1.sub p u h
        rw [(fr.new p hp).1] at this; cases this
/-- a call of a def -/
theorem callC {f : Nat} {ds : List D} {vs : List V} {B : List Addr} {Q : VK} (f1 : Fut S0 H0 S H) (o : Owns K S H ds vs B) (r : Fresh H0 S B) (k : Kont XR E H0 (callD (Φ f) ds) fun d => KE K S0 H0 d Q) : spF K XR (Φ f).n (Φ f).sem vs H Q E := by
  unfold callD at k
  split at k
  rotate_left
  · exact k.elim
  rename_i l
  rw [Owns.length ds vs B o] at l
  split at k
  · rename_i c
    obtain ⟨g, s⟩ := f1.more r
    exact ⟨l, more S H B, zzs ds, g.sub, Owns.freeze s ds vs B c (fun p hp => more_in hp) o, isZs_zzs ds, k.imp f1.hp fun d _ k => k.fut g⟩
  · by_cases oz : objZs ds = true
    · refine ⟨l, noIns S H, zzs ds, noIns_sub f1.sub, Owns.viewL (noIns_st f1.sub) noIns_non ds vs B oz o, isZs_zzs ds, ?_⟩
      refine k.bind f1.hp fun d _ k => ?_
      intro v S' H' B' g od fr
      obtain ⟨S2, f2, o2, r2⟩ := backL f1 g od fr
      have k : KE K S0 H0 (backD ds d) Q := k
      rw [show backD ds d = taintL d from if_pos oz] at k
      exact k v S2 H' B' (f1.trans f2) o2 r2
    · refine ⟨l, H, zzs ds, Same.refl _, Owns.view f1.sub ds vs B o, isZs_zzs ds, ?_⟩
      refine k.bind f1.hp fun d _ k => ?_
      intro v S' H' B' g od fr
      obtain ⟨S2, f2, o2, r2⟩ := backC f1 g od fr
      have k : KE K S0 H0 (backD ds d) Q := k
      rw [show backD ds d = taint d from if_neg oz] at k
      exact k v S2 H' B' (f1.trans f2) o2 r2
/-- a new instance -/
theorem makeC {f : Nat} {c : Str} {ds : List D} {vs : List V} {B : List Addr} {Q : VK} (f1 : Fut S0 H0 S H) (o : Owns K S H ds vs B) (r : Fresh H0 S B) (k : Kont XR E H0 (makeD (Φ f) ds) fun d => KE K S0 H0 d Q) :
    ∀ x dx, H x = none → H dx = none → dx ≠ x → spI K XR c (Φ f).n (Φ f).sem (.ref x :: vs) (upd (upd H dx (.own x)) x (.ins (He.ga K c) dx [])) (fun v H2 => v = .non ∧ Q (.ref x) H2) E := by
  intro x dx hx hdx hne
  unfold makeD at k
  split at k
  rotate_left
  · exact k.elim
  rename_i l
  rw [Owns.length ds vs B o] at l
  split at k
  · rename_i c
    obtain ⟨g0, s⟩ := f1.more r
    exact ⟨l, x, dx, vs, H, more S H B, zzs ds, rfl, hx, hdx, hne, rfl, g0.sub, Owns.freeze s ds vs B c (fun p hp => more_in hp) o, isZs_zzs ds, k.imp f1.hp fun d _ k => fun S' H' B g od fr => ⟨rfl, k _ S' H' B (g0.trans g) od (fr.back f1.hp)⟩⟩
  · by_cases oz : objZs ds = true
    · refine ⟨l, x, dx, vs, H, noIns S H, zzs ds, rfl, hx, hdx, hne, rfl, noIns_sub f1.sub, Owns.viewL (noIns_st f1.sub) noIns_non ds vs B oz o, isZs_zzs ds, ?_⟩
      refine k.bind f1.hp fun d _ k => ?_
      intro S' H' B' g od fr
      obtain ⟨S2, f2, o2, r2⟩ := backL f1 g od fr
      have k : KE K S0 H0 (backD ds d) Q := k
      rw [show backD ds d = taintL d from if_pos oz] at k
      exact ⟨rfl, k _ S2 H' B' (f1.trans f2) o2 r2⟩
    · refine ⟨l, x, dx, vs, H, H, zzs ds, rfl, hx, hdx, hne, rfl, Same.refl _, Owns.view f1.sub ds vs B o, isZs_zzs ds, ?_⟩
      refine k.bind f1.hp fun d _ k => ?_
      intro S' H' B' g od fr
      obtain ⟨S2, f2, o2, r2⟩ := backC f1 g od fr
      have k : KE K S0 H0 (backD ds d) Q := k
      rw [show backD ds d = taint d from if_neg oz] at k
      exact ⟨rfl, k _ S2 H' B' (f1.trans f2) o2 r2⟩
theorem stays_now {lv : Bool} {S H : Hp} (s : Same S H) : stays lv S H H := ⟨s, fun _ => Same.refl _⟩
theorem itList {lv : Bool} {a : Addr} {vs : List V} {ds : List D} (h : ∀ H2, stays lv S H H2 → SqL K H2 a vs) (o : Owns K S H ds vs []) (z : lv = true ∨ isZs ds = true) : ItOk K (Itl K a) (stays lv S H) S ds := by
  have l := Owns.length _ _ _ o
  refine ⟨fun i H2 p hi => ?_, fun i H2 p hi => ⟨vs, h H2 p, by omega⟩, fun i H2 x H' d S9 p y e sS sH => ?_⟩
  · exact ⟨vs, vs[i]'(by omega), h H2 p, by simp [show i < vs.length by omega]⟩
  · obtain ⟨rfl, y⟩ := y
    obtain ⟨v, B1, B2, B3, q1, q2, q3⟩ := Owns.get ds vs [] i d o e
    have := y vs (h H' p)
    rw [q1] at this
    cases this
    have : B2 = [] := by
      have := q2.symm
      simp at this
      exact this.2.1
    subst this
    refine ⟨S9, Fut.refl sH, Own.keep (H := H') sS _ _ _ (.inr (Same.refl _)) (fun _ z => nomatch z) ?_⟩
    rcases z with z | z
    · exact Own.keep (Same.refl _) _ _ _ (.inr (p.2 z)) (fun _ z => nomatch z) q3
    · have zd : isZ d = true := by
        have zz : ∀ (ds : List D) (i : Nat) (d : D), isZs ds = true → ds[i]? = some d → isZ d = true := fun ds => by
          induction ds with
          | nil => intro i d _ e; simp at e
          | cons x xs ih =>
            intro i d z e
            simp only [isZs, Bool.and_eq_true] at z
            cases i with
            | zero => simp at e; subst e; exact z.1
            | succ i => exact ih i d z.2 (by simpa using e)
        exact zz ds i d z e
      exact (Own.ofZ d _ [] zd q3).2
theorem itTup {lv : Bool} {a : Addr} {vs : List V} {ds : List D} (h : ∀ H2, stays lv S H H2 → SqT K H2 a vs) (o : Owns K S H ds vs []) (z : lv = true ∨ isZs ds = true) : ItOk K (Itt K a) (stays lv S H) S ds := by
  have l := Owns.length _ _ _ o
  refine ⟨fun i H2 p hi => ?_, fun i H2 p hi => ⟨vs, h H2 p, by omega⟩, fun i H2 x H' d S9 p y e sS sH => ?_⟩
  · exact ⟨vs, vs[i]'(by omega), h H2 p, by simp [show i < vs.length by omega]⟩
  · obtain ⟨rfl, y⟩ := y
    obtain ⟨v, B1, B2, B3, q1, q2, q3⟩ := Owns.get ds vs [] i d o e
    have := y vs (h H' p)
    rw [q1] at this
    cases this
    have : B2 = [] := by
      have := q2.symm
      simp at this
      exact this.2.1
    subst this
    refine ⟨S9, Fut.refl sH, Own.keep (H := H') sS _ _ _ (.inr (Same.refl _)) (fun _ z => nomatch z) ?_⟩
    rcases z with z | z
    · exact Own.keep (Same.refl _) _ _ _ (.inr (p.2 z)) (fun _ z => nomatch z) q3
    · have zd : isZ d = true := by
        have zz : ∀ (ds : List D) (i : Nat) (d : D), isZs ds = true → ds[i]? = some d → isZ d = true := fun ds => by
          induction ds with
          | nil => intro i d _ e; simp at e
          | cons x xs ih =>
            intro i d z e
            simp only [isZs, Bool.and_eq_true] at z
            cases i with
            | zero => simp at e; subst e; exact z.1
            | succ i => exact ih i d z.2 (by simpa using e)
        exact zz ds i d z e
      exact (Own.ofZ d _ [] zd q3).2
theorem Fut.pair {S1 H1 : Hp} (s : Same S1 H1) {T : Addr} {o : HO} (n : H1 T = none) : Fut S1 H1 (L2.upd S1 T o) (L2.upd H1 T o) := by
  have n1 : S1 T = none := Same.none s n
  refine ⟨same_upd n, same_upd n1, fun a u e => ?_, fun a u e => ?_⟩
  · by_cases h : a = T
    · subst h; rw [upd_same] at e ⊢; exact e
    · rw [upd_ne h] at e ⊢; exact s a u e
  · by_cases h : a = T
    · subst h; exact .inr (.inl n)
    · rw [upd_ne h] at e; exact .inl e
theorem enumD_at : ∀ {ds : List D} {k i : Nat} {e : D}, (enumD k ds)[i]? = some e → ∃ d, ds[i]? = some d ∧ e = .tup [.int ((k + i : Nat) : Int), d]
  | [], k, i, e, h => by simp [enumD] at h
  | d :: ds, k, 0, e, h => by simp [enumD] at h; exact ⟨d, rfl, h.symm⟩
  | d :: ds, k, i + 1, e, h => by
    obtain ⟨d2, h1, h2⟩ := enumD_at (ds := ds) (k := k + 1) (i := i) (by simpa [enumD] using h)
    exact ⟨d2, by simpa using h1, by rw [h2, show k + 1 + i = k + (i + 1) by omega]⟩
theorem enumD_len : ∀ {ds : List D} {k : Nat}, (enumD k ds).length = ds.length
  | [], _ => rfl
  | d :: ds, k => by simp [enumD, enumD_len (ds := ds)]
theorem enumD_z : ∀ {ds : List D} {k : Nat}, isZs ds = true → isZs (enumD k ds) = true
  | [], _, _ => rfl
  | d :: ds, k, h => by
    simp only [isZs, Bool.and_eq_true] at h
    simp [enumD, isZs, isZ, h.1, enumD_z (ds := ds) h.2]
theorem isZs_atF : ∀ (ds : List D) (i : Nat) (d : D), isZs ds = true → ds[i]? = some d → isZ d = true
  | [], i, d, _, e => by simp at e
  | x :: xs, 0, d, z, e => by
    simp only [isZs, Bool.and_eq_true] at z
    simp at e; subst e; exact z.1
  | x :: xs, i + 1, d, z, e => by
    simp only [isZs, Bool.and_eq_true] at z
    exact isZs_atF xs i d z.2 (by simpa using e)
theorem itEnum {lv : Bool} {a : Addr} {vs : List V} {ds : List D} {J : L2.It} (hJ : (J = Ite K a ∧ ∀ H2, stays lv S H H2 → SqL K H2 a vs) ∨ (J = IteT K a ∧ ∀ H2, stays lv S H H2 → SqT K H2 a vs)) (o : Owns K S H ds vs []) (z : isZs ds = true) :
    ItOk K J (stays lv S H) S (enumD 0 ds) := by
  have l := Owns.length _ _ _ o
  have own : ∀ i d x, ds[i]? = some d → vs[i]? = some x → ∀ S1 H1, Same S S1 → Own K S1 H1 d x [] := fun i d x h1 h2 S1 H1 s => by
    obtain ⟨v, B1, B2, B3, q1, q2, q3⟩ := Owns.get ds vs [] i d o h1
    rw [h2] at q1
    cases q1
    have : B2 = [] := by
      have := q2.symm
      simp at this
      exact this.2.1
    subst this
    have zd := isZs_atF ds i d z h1
    exact Own.keep s _ _ _ (.inr (Same.refl _)) (fun _ z => nomatch z) (Own.ofZ (H' := H1) d _ [] zd q3).2
  have mk : ∀ (i : Nat) (H1 H2 : Hp) (T : Addr) (x : V) (e : D) (S9 : Hp), H1 T = none → H2 = upd H1 T (.tup [.int (i : Nat), x]) → vs[i]? = some x → (enumD 0 ds)[i]? = some e → Same S S9 → Same S9 H1 → ∃ S2, Fut S9 H1 S2 H2 ∧ Own K S2 H2 e (.ref T) [] := by
    rintro i H1 H2 T x e S9 n rfl hx he sS sH
    obtain ⟨d, h1, rfl⟩ := enumD_at he
    have n9 : S9 T = none := Same.none sH n
    refine ⟨_, Fut.pair sH n, rfl, T, [.int (i : Nat), x], rfl, upd_same, .int (i : Nat), [x], [], [], rfl, rfl, ⟨by simp, rfl⟩, x, [], [], [], rfl, rfl, own i d x h1 hx _ _ (sS.trans (same_upd n9)), rfl, rfl⟩
  rcases hJ with ⟨rfl, h⟩ | ⟨rfl, h⟩
  · refine ⟨fun i H2 p hi => ?_, fun i H2 p hi => ⟨vs, h H2 p, by rw [enumD_len] at hi; omega⟩, fun i H2 x H' e S9 p y he sS sH => ?_⟩
    · rw [enumD_len] at hi
      exact ⟨vs, vs[i]'(by omega), h H2 p, by simp [show i < vs.length by omega]⟩
    · obtain ⟨T, x0, rfl, n, hH, hy⟩ := y
      exact mk i H2 H' T x0 e S9 n hH (hy vs (h H2 p)) he sS sH
  · refine ⟨fun i H2 p hi => ?_, fun i H2 p hi => ⟨vs, h H2 p, by rw [enumD_len] at hi; omega⟩, fun i H2 x H' e S9 p y he sS sH => ?_⟩
    · rw [enumD_len] at hi
      exact ⟨vs, vs[i]'(by omega), h H2 p, by simp [show i < vs.length by omega]⟩
    · obtain ⟨T, x0, rfl, n, hH, hy⟩ := y
      exact mk i H2 H' T x0 e S9 n hH (hy vs (h H2 p)) he sS sH
theorem isZs_ints : ∀ (l : List Nat) (lo : Int), isZs (l.map fun (k : Nat) => D.int (lo + k)) = true
  | [], _ => rfl
  | k :: l, lo => by simp [isZs, isZ, isZs_ints l lo]
theorem itRng {lv : Bool} {lo : Int} {n : Nat} : ItOk K (Itr lo n) (stays lv S H) S (rangeD lo n) := by
  refine ⟨fun i H2 p hi => (show i < n by simpa [rangeD] using hi), fun i H2 p hi => (show n ≤ i by simpa [rangeD] using hi), fun i H2 x H' d S9 p y e sS sH => ?_⟩
  obtain ⟨rfl, rfl⟩ := y
  refine ⟨S9, Fut.refl sH, ?_⟩
  simp only [rangeD, List.getElem?_map] at e
  cases h : (List.range n)[i]? with
  | none => rw [h] at e; cases e
  | some k =>
    rw [h] at e
    cases e
    obtain ⟨hk, rfl⟩ := List.getElem?_eq_some_iff.mp h
    simp [Own]
/-- a sequence that a loop takes -/
theorem seqC {lv : Bool} {d : D} {ds : List D} {v : V} {B : List Addr} {R : L2.It → Hp → Prop} (e : seqOf lv d = some ds) (f : Fut S0 H0 S H) (o : Own K S H d v B) (r : Fresh H0 S B) (k : KI K lv S0 H0 ds R) :
    ∃ a, v = .ref a ∧ ((∃ xs, SqL K H a xs ∧ R (Itl K a) H) ∨ (∃ xs, SqT K H a xs ∧ R (Itt K a) H)) := by
  unfold seqOf at e
  split at e
  · split at e <;> cases e
    rename_i z
    rw [Bool.or_eq_true] at z
    obtain ⟨_, a, vs, e1, q1, o1⟩ := o
    exact ⟨a, e1, .inr ⟨vs, .inl (.inl (f.sub _ _ q1)), k _ S H f (itTup (fun H2 p => .inl (.inl (p.1 _ _ q1))) o1 z) z⟩⟩
  · split at e <;> cases e
    rename_i z
    obtain ⟨_, a, vs, e1, q1, o1⟩ := o
    exact ⟨a, e1, .inl ⟨vs, .inl (.inl q1), k _ S H f (itList (fun H2 p => .inl (.inl (p.2 z _ _ q1))) o1 (.inl z)) (.inl z)⟩⟩
  · split at e <;> cases e
    rename_i fl ds nb c
    obtain ⟨g, s⟩ := f.more r
    cases fl with
    | b => exact absurd rfl nb
    | z =>
      obtain ⟨eB, a, vs, e1, q1, o1⟩ := o
      have o2 : Owns K S H (zzs ds) vs [] := Owns.freeze (Same.refl _) ds vs [] c (fun _ z => nomatch z) o1
      exact ⟨a, e1, .inl ⟨vs, .inl (.inl (f.sub _ _ q1)), k _ S H f (itList (fun H2 p => .inl (.inl (p.1 _ _ q1))) o2 (.inr (isZs_zzs ds))) (.inr (isZs_zzs ds))⟩⟩
    | o =>
      obtain ⟨a, vs, B', e1, eB, q1, o1⟩ := o
      subst eB
      have o2 : Owns K (more S H (a :: B')) H (zzs ds) vs [] := Owns.freeze s ds vs B' c (fun p hp => more_in (by simp [hp])) o1
      have q2 : more S H (a :: B') a = some (.lst vs) := (more_in (by simp)).trans q1
      exact ⟨a, e1, .inl ⟨vs, .inl (.inl q1), k _ _ H g (itList (fun H2 p => .inl (.inl (p.1 _ _ q2))) o2 (.inr (isZs_zzs ds))) (.inr (isZs_zzs ds))⟩⟩
  · cases e
theorem enumC {lv : Bool} {d : D} {ds : List D} {v : V} {B : List Addr} {R : L2.It → Hp → Prop} (e : seqOf lv d = some ds) (zd : isZs ds = true) (f : Fut S0 H0 S H) (o : Own K S H d v B) (r : Fresh H0 S B) (k : KI K lv S0 H0 (enumD 0 ds) R) :
    ∃ a xs, [v] = [.ref a] ∧ ((SqL K H a xs ∧ R (Ite K a) H) ∨ (SqT K H a xs ∧ R (IteT K a) H)) := by
  have ez : lv = true ∨ isZs (enumD 0 ds) = true := .inr (enumD_z zd)
  unfold seqOf at e
  split at e
  · split at e <;> cases e
    obtain ⟨_, a, vs, e1, q1, o1⟩ := o
    exact ⟨a, vs, by rw [e1], .inr ⟨.inl (.inl (f.sub _ _ q1)), k _ S H f (itEnum (a := a) (.inr ⟨rfl, fun H2 p => .inl (.inl (p.1 _ _ q1))⟩) o1 zd) ez⟩⟩
  · split at e <;> cases e
    rename_i z
    obtain ⟨_, a, vs, e1, q1, o1⟩ := o
    exact ⟨a, vs, by rw [e1], .inl ⟨.inl (.inl q1), k _ S H f (itEnum (a := a) (.inl ⟨rfl, fun H2 p => .inl (.inl (p.2 z _ _ q1))⟩) o1 zd) ez⟩⟩
  · split at e <;> cases e
    rename_i fl ds nb c
    obtain ⟨g, s⟩ := f.more r
    cases fl with
    | b => exact absurd rfl nb
    | z =>
      obtain ⟨eB, a, vs, e1, q1, o1⟩ := o
      have o2 : Owns K S H (zzs ds) vs [] := Owns.freeze (Same.refl _) ds vs [] c (fun _ z => nomatch z) o1
      exact ⟨a, vs, by rw [e1], .inl ⟨.inl (.inl (f.sub _ _ q1)), k _ S H f (itEnum (a := a) (.inl ⟨rfl, fun H2 p => .inl (.inl (p.1 _ _ q1))⟩) o2 zd) ez⟩⟩
    | o =>
      obtain ⟨a, vs, B', e1, eB, q1, o1⟩ := o
      subst eB
      have o2 : Owns K (more S H (a :: B')) H (zzs ds) vs [] := Owns.freeze s ds vs B' c (fun p hp => more_in (by simp [hp])) o1
      have q2 : more S H (a :: B') a = some (.lst vs) := (more_in (by simp)).trans q1
      exact ⟨a, vs, by rw [e1], .inl ⟨.inl (.inl q1), k _ _ H g (itEnum (a := a) (.inl ⟨rfl, fun H2 p => .inl (.inl (p.1 _ _ q2))⟩) o2 zd) ez⟩⟩
  · cases e
end EV
namespace EV
open PySem L2
variable {K : Kx} {XR : PySem.W.Frag} {Φ : Tab}
theorem get_some {env : Env} {i : Nat} {d : D} (e : get env i = .ok d) : env[i]? = some (some d) := by
  unfold get at e
  split at e
  · rename_i h; cases e; exact h
  · cases e
theorem noEx_ne {α : Type} {r : R α} {x : Exc} : noEx r ≠ .ex x := by
  cases r <;> intro h <;> cases h
theorem noEx_ok {α : Type} {r : R α} {a : α} (h : noEx r = .ok a) : r = .ok a := by
  cases r <;> cases h <;> rfl
theorem same_updS {S H : Hp} {p : Addr} {o : HO} (s : Same S H) (n : S p = none) : Same S (upd H p o) := fun a u e => by
  rw [upd_ne (ne_of_none e n)]; exact s a u e
/-- the cell of a list under way is written -/
theorem Fut.write {S1 H1 S2 H2 : Hp} {p : Addr} {o : HO} (f : Fut S1 H1 S2 H2) (n1 : H1 p = none) (n2 : S2 p = none) : Fut S1 H1 S2 (L2.upd H2 p o) :=
  ⟨same_updS f.hp n1, f.st, same_updS f.sub n2, f.new⟩
/-- a comprehension's list: the loop -/
theorem compC {g : TG} {tt : TT} {te : TE} {own : List Nat} {turn : D → R (Option D)} {S H : Hp} {σ : St} {Q : VK} {ds : List D} {J : L2.It} {S1 H1 : Hp} {P : Hp → Prop} {XR : PySem.W.Frag} {E : XK}
    (f1 : Fut S H S1 H1) (J1 : ItOk K J P S1 ds) (hP : ∀ H2, Same S1 H2 → Same H1 H2 → P H2) (hx : ∀ d x, turn d ≠ .ex x)
    (step : ∀ (d : D) (x : V) (S2 H2 : Hp) (Pn : Hp → Prop) (Ps : VK), Fut S1 H1 S2 H2 → Own K S2 H2 d x [] → 
      ∀ r, turn d = .ok r → (∀ S3 H3, Fut S2 H2 S3 H3 → r = none → Pn H3) → (∀ z, r = some z → KE K S2 H2 z Ps) →
      g x (wipe σ own) H2 fun σ2 H3 => wipe σ2 own = wipe σ own ∧ tt σ2 H3 fun b H4 => if b = true then te σ2 H4 Ps else Pn H4)
    {D0 : Addr} (nD : H1 D0 = none) (k : Kont XR E H ((compL turn ds []).bind fun xs => .ok (.lst .o xs)) fun d => KE K S H d Q) :
    ∃ W : Nat → Nat → Hp → Prop, (∃ m, W 0 m (upd H1 D0 (.lst []))) ∧ ∀ i m H, W i m H →
      (J.stop i H ∧ Q (.ref D0) H) ∨ (J.go i H ∧ ∃ Nx : Hp → Prop, (∀ H', Nx H' → ∃ m', m' < m ∧ W (i + 1) m' H') ∧ ∀ x H', J.yld i H x H' → g x (wipe σ own) H' fun σ2 H2 => wipe σ2 own = wipe σ own ∧ tt σ2 H2 fun b H3 =>
        if b = true then te σ2 H3 fun y H4 => ∃ acc, H4 D0 = some (.lst acc) ∧ acc.length < sizeLine ∧ Nx (upd H4 D0 (.lst (acc ++ [y]))) else Nx H3) := by
  have nS1 : S1 D0 = none := Same.none f1.sub nD
  refine ⟨fun i m H2 => m = ds.length - i ∧ i ≤ ds.length ∧ ∃ S2 acc vs B, Fut S1 H1 S2 H2 ∧ H2 D0 = some (.lst vs) ∧ Owns K S2 H2 acc vs B ∧ cleans acc = true ∧ Fresh H1 S2 (D0 :: B) ∧
    Kont XR E H ((compL turn (ds.drop i) acc).bind fun xs => .ok (.lst .o xs)) (fun d => KE K S H d Q), ⟨ds.length, by simp, Nat.zero_le _, S1, [], [], [], (Fut.refl f1.sub).upd nD, upd_same, ⟨rfl, rfl⟩, rfl, ⟨by simp, fun p hp => by
      have : p = D0 := by simpa using hp
      subst this
      exact ⟨nD, nS1⟩⟩, by simpa using k⟩, ?_⟩
  rintro i m H2 ⟨rfl, hi, S2, acc, vs, B, f2, hD, ow, cl, fr, kk⟩
  have pH : P H2 := hP H2 (fun a o e => f2.hp a o (f1.sub a o e)) f2.hp
  have lacc := Owns.length _ _ _ ow
  by_cases hlt : i < ds.length
  · refine .inr ⟨J1.go i H2 pH hlt, fun H' => i + 1 ≤ ds.length ∧ ∃ S2 acc vs B, Fut S1 H1 S2 H' ∧ H' D0 = some (.lst vs) ∧ Owns K S2 H' acc vs B ∧ cleans acc = true ∧ Fresh H1 S2 (D0 :: B) ∧
      Kont XR E H ((compL turn (ds.drop (i + 1)) acc).bind fun xs => .ok (.lst .o xs)) (fun d => KE K S H d Q), fun H' h => ⟨ds.length - (i + 1), by omega, rfl, h⟩, fun x H' y => ?_⟩
    have ei : ds[i]? = some ds[i] := List.getElem?_eq_getElem hlt
    have t9 : ∀ p ∈ D0 :: B, Hld H2 p := fun p hp => by
      rcases List.mem_cons.mp hp with rfl | hp
      · exact ⟨_, hD, trivial⟩
      · exact Owns.there _ _ _ ow p hp
    obtain ⟨S9, fy, ox2⟩ := J1.yld i H2 x H' _ S2 pH y ei f2.st f2.sub
    have fr := fr.fut fy t9
    have ow := ow.fut fy
    have hD := fy.hp _ _ hD
    have f2 := f2.trans fy
    clear t9 fy
    rw [List.drop_eq_getElem_cons hlt] at kk
    simp only [compL] at kk
    have t0 : ∀ p ∈ D0 :: B, Hld H' p := fun p hp => by
      rcases List.mem_cons.mp hp with rfl | hp
      · exact ⟨_, hD, trivial⟩
      · exact Owns.there _ _ _ ow p hp
    cases hr : turn ds[i] with
    | st => rw [hr] at kk; exact kk.elim
    | ex x => exact absurd hr (hx _ _)
    | ok r =>
      rw [hr] at kk
      refine step ds[i] x S9 H' _ _ f2 ox2 r hr (fun S3 H3 f3 e => ?_) (fun z e => ?_)
      · subst e
        exact ⟨hlt, S3, acc, vs, B, f2.trans f3, f3.hp _ _ hD, ow.fut f3, cl, fr.fut f3 t0, kk⟩
      · subst e
        intro y S4 H4 By f4 oy ry
        change Kont XR E H ((if (clean z && decide (acc.length < sizeLine)) = true then compL turn (ds.drop (i + 1)) (acc ++ [z]) else R.st).bind _) _ at kk
        by_cases hc : (clean z && decide (acc.length < sizeLine)) = true
        · rw [if_pos hc] at kk
          rw [Bool.and_eq_true, decide_eq_true_eq] at hc
          have fr4 := fr.fut f4 t0
          have ow4 := ow.fut f4
          have nS4 : S4 D0 = none := (fr4.new D0 (by simp)).2
          have all := Fresh.app f4 f2.hp fr t0 ry
          have nd := all.nd
          have hD4 := f4.hp _ _ hD
          refine ⟨vs, hD4, by rw [← lacc]; exact hc.2, hlt, S4, acc ++ [z], vs ++ [y], B ++ By, (f2.trans f4).write nD nS4, upd_same, Owns.append _ _ _ _ _ _ ?_ (Owns.one ?_), ?_, by simpa using all, kk⟩
          · refine Owns.keep (Same.refl _) _ _ _ (.inl cl) (fun p hp => upd_ne ?_) ow4
            rintro rfl
            simp at nd
            exact nd.1.1 hp
          · refine Own.keep (Same.refl _) _ _ _ (.inl hc.1) (fun p hp => upd_ne ?_) oy
            rintro rfl
            simp at nd
            exact nd.1.2 hp
          · have : ∀ (a : List D), cleans a = true → cleans (a ++ [z]) = true := fun a => by
              induction a with
              | nil => intro _; simp [cleans, hc.1]
              | cons x xs ih => intro h; simp only [cleans, Bool.and_eq_true] at h; simp [cleans, h.1, ih h.2]
            exact this acc cl
        · rw [if_neg hc] at kk
          exact kk.elim
  · have e : i = ds.length := by omega
    subst e
    refine .inl ⟨J1.stop _ H2 pH (Nat.le_refl _), ?_⟩
    rw [List.drop_length] at kk
    exact kk (.ref D0) S2 H2 (D0 :: B) (f1.trans f2) ⟨D0, vs, B, rfl, rfl, hD, ow⟩ (fr.back f1.hp)
theorem cleans_snoc : ∀ (a : List D) (z : D), cleans a = true → clean z = true → cleans (a ++ [z]) = true
  | [], z, _, h => by simp [cleans, h]
  | x :: xs, z, c, h => by
    simp only [cleans, Bool.and_eq_true] at c
    simp [cleans, c.1, cleans_snoc xs z c.2 h]
/-- the items of a fresh list that pass a test: the loop -/
theorem fltC {i : Nat} {tt : TT} {test : D → R Bool} {S H : Hp} {σ : St} {Q : VK} {ds : List D} {a : Addr} {vs : List V} {B : List Addr} {S1 H1 : Hp} {XR : PySem.W.Frag} {E : XK}
    (f1 : Fut S H S1 H1) (hq : H1 a = some (.lst vs)) (ow : Owns K S1 H1 ds vs B) (cl : cleans ds = true) (fr : Fresh H S1 B) (hl : ds.length ≤ sizeLine) (hi : i < σ.length) (hx : ∀ d x, test d ≠ .ex x)
    (step : ∀ (d : D) (x : V) (S2 H2 : Hp) (Pn : Bool → Hp → Prop), Fut S1 H1 S2 H2 → Own K S2 H2 (bb d) x [] → ∀ b, test d = .ok b → (∀ S3 H3, Fut S2 H2 S3 H3 → Pn b H3) → tt ((wipe σ [i]).set i (some x)) H2 Pn)
    {D0 : Addr} (nD : H1 D0 = none) (k : Kont XR E H ((fltL test ds []).bind fun xs => .ok (.lst .o xs)) fun d => KE K S H d Q) :
    ∃ W : Nat → Nat → Hp → Prop, (∃ m, W 0 m (upd H1 D0 (.lst []))) ∧ ∀ n m H, W n m H →
      ((Itl K a).stop n H ∧ Q (.ref D0) H) ∨ ((Itl K a).go n H ∧ ∃ Nx : Hp → Prop, (∀ H', Nx H' → ∃ m', m' < m ∧ W (n + 1) m' H') ∧ ∀ x H', (Itl K a).yld n H x H' → gName i x (wipe σ [i]) H' fun σ2 H2 => wipe σ2 [i] = wipe σ [i] ∧ tt σ2 H2 fun b H3 =>
        if b = true then tVar i σ2 H3 fun y H4 => ∃ acc, H4 D0 = some (.lst acc) ∧ acc.length < sizeLine ∧ Nx (upd H4 D0 (.lst (acc ++ [y]))) else Nx H3) := by
  have nS1 : S1 D0 = none := Same.none f1.sub nD
  have tB := Owns.there ds vs B ow
  have nB : D0 ∉ B := fun z => by
    (obtain ⟨_, t, _⟩ := tB D0 z; rw [t] at nD; cases nD)
  have lvs := Owns.length _ _ _ ow
  refine ⟨fun n m H2 => m = ds.length - n ∧ n ≤ ds.length ∧ ∃ S2 acc us BA BR, Fut S1 H1 S2 H2 ∧ S2 D0 = none ∧ H2 D0 = some (.lst us) ∧ Owns K S2 H2 acc us BA ∧ Owns K S2 H2 (ds.drop n) (vs.drop n) BR ∧ cleans acc = true ∧ cleans (ds.drop n) = true ∧ (BA ++ BR).Sublist B ∧ acc.length ≤ n ∧
    Kont XR E H ((fltL test (ds.drop n) acc).bind fun xs => .ok (.lst .o xs)) (fun d => KE K S H d Q), ⟨ds.length, by simp, Nat.zero_le _, S1, [], [], [], B, (Fut.refl f1.sub).upd nD, nS1, upd_same, ⟨rfl, rfl⟩, ?_, rfl, by simpa using cl, by simp, by simp, by simpa using k⟩, ?_⟩
  · simpa using ow.fut ((Fut.refl f1.sub).upd nD)
  rintro n m H2 ⟨rfl, hn, S2, acc, us, BA, BR, f2, nD2, hD, oa, orr, ca, cr, sl, la, kk⟩
  have hq2 : SqL K H2 a vs := .inl (.inl (f2.hp _ _ hq))
  have lus := Owns.length _ _ _ oa
  by_cases hlt : n < ds.length
  · have hlv : n < vs.length := by omega
    refine .inr ⟨⟨vs, vs[n], hq2, List.getElem?_eq_getElem hlv⟩, fun H' => n + 1 ≤ ds.length ∧ ∃ S2 acc us BA BR, Fut S1 H1 S2 H' ∧ S2 D0 = none ∧ H' D0 = some (.lst us) ∧ Owns K S2 H' acc us BA ∧ Owns K S2 H' (ds.drop (n + 1)) (vs.drop (n + 1)) BR ∧ cleans acc = true ∧ cleans (ds.drop (n + 1)) = true ∧ (BA ++ BR).Sublist B ∧ acc.length ≤ n + 1 ∧
      Kont XR E H ((fltL test (ds.drop (n + 1)) acc).bind fun xs => .ok (.lst .o xs)) (fun d => KE K S H d Q), fun H' h => ⟨ds.length - (n + 1), by omega, rfl, h⟩, fun x H' y => ?_⟩
    obtain ⟨rfl, y⟩ := y
    have ex := y vs hq2
    rw [List.getElem?_eq_getElem hlv] at ex
    cases ex
    rw [List.drop_eq_getElem_cons hlt] at kk orr cr
    rw [List.drop_eq_getElem_cons hlv] at orr
    obtain ⟨v, vs', B1, B2, ev, rfl, o1, o2⟩ := orr
    injection ev with ev1 ev2
    rw [← ev1] at o1
    rw [← ev2] at o2
    simp only [cleans, Bool.and_eq_true] at cr
    have hw : i < (wipe σ [i]).length := by rw [wipe_length]; exact hi
    refine ⟨wipe_same (by simp [wipe_length]) fun j hj => ?_, ?_⟩
    · rw [List.getElem?_set_ne]
      simp at hj
      exact fun z => hj z.symm
    simp only [fltL] at kk
    cases hr : test ds[n] with
    | st => rw [hr] at kk; exact kk.elim
    | ex x => exact absurd hr (hx _ _)
    | ok b =>
      rw [hr] at kk
      refine step ds[n] _ S2 H' _ f2 (o1.borrow f2.sub) b hr fun S3 H3 f3 => ?_
      have nD3 : S3 D0 = none := out_keep f3 ⟨_, hD, trivial⟩ nD2
      have hD3 := f3.hp _ _ hD
      cases b with
      | false =>
        rw [if_neg Bool.false_ne_true]
        exact ⟨hlt, S3, acc, us, BA, B2, f2.trans f3, nD3, hD3, oa.fut f3, o2.fut f3, ca, cr.2, (List.Sublist.append_left (List.sublist_append_right B1 B2) BA).trans sl, by omega, kk⟩
      | true =>
        rw [if_pos rfl]
        have ll : us.length < sizeLine := by omega
        have inB : ∀ p, p ∈ BA ∨ p ∈ B1 ∨ p ∈ B2 → p ≠ D0 := fun p hp e => nB (by rw [← e]; exact sl.subset (by simpa using hp))
        refine ⟨_, List.getElem?_set_self hw, us, hD3, ll, hlt, S3, acc ++ [ds[n]], us ++ [vs[n]], BA ++ B1, B2, (f2.trans f3).write nD nD3, nD3, upd_same, Owns.append _ _ _ _ _ _ ?_ (Owns.one ?_), ?_, cleans_snoc _ _ ca cr.1, cr.2, by simpa using sl, by simp; omega, kk⟩
        · exact Owns.keep (Same.refl _) _ _ _ (.inl ca) (fun p hp => upd_ne (inB p (.inl hp))) (oa.fut f3)
        · exact Own.keep (Same.refl _) _ _ _ (.inl cr.1) (fun p hp => upd_ne (inB p (.inr (.inl hp)))) (o1.fut f3)
        · exact Owns.keep (Same.refl _) _ _ _ (.inl cr.2) (fun p hp => upd_ne (inB p (.inr (.inr hp)))) (o2.fut f3)
  · have e : n = ds.length := by omega
    subst e
    refine .inl ⟨⟨vs, hq2, by omega⟩, ?_⟩
    rw [List.drop_length] at kk
    have fr2 := (fr.fut f2 tB).sub ((List.sublist_append_left BA BR).trans sl)
    refine kk (.ref D0) S2 H2 (D0 :: BA) (f1.trans f2) ⟨D0, us, BA, rfl, rfl, hD, oa⟩ ⟨List.nodup_cons.mpr ⟨fun z => nB (sl.subset (by simp [z])), fr2.nd⟩, fun p hp => ?_⟩
    rcases List.mem_cons.mp hp with rfl | hp
    · exact ⟨Same.none f1.hp nD, nD2⟩
    · exact fr2.new p hp
/-- a dict comprehension's dict: the loop -/
theorem dcompC {g : TG} {tk tv : TE} {own : List Nat} {turn : D → R (Key × D)} {S H : Hp} {σ : St} {Q : VK} {ds : List D} {J : L2.It} {S1 H1 : Hp} {P : Hp → Prop} {XR : PySem.W.Frag} {E : XK}
    (f1 : Fut S H S1 H1) (J1 : ItOk K J P S1 ds) (hP : ∀ H2, Same S1 H2 → Same H1 H2 → P H2) (hx : ∀ d x, turn d ≠ .ex x)
    (step : ∀ (d : D) (x : V) (S2 H2 : Hp) (Ps : V → V → Hp → Prop), Fut S1 H1 S2 H2 → Own K S2 H2 d x [] → 
      ∀ r, turn d = .ok r → (∀ y S3 H3 B, Fut S2 H2 S3 H3 → Own K S3 H3 r.2 y B → Fresh H2 S3 B → Ps (kV r.1) y H3) →
      g x (wipe σ own) H2 fun σ2 H3 => wipe σ2 own = wipe σ own ∧ tk σ2 H3 fun y H4 => tv σ2 H4 fun z H5 => Ps y z H5)
    {D0 : Addr} (nD : H1 D0 = none) (k : Kont XR E H ((dcompL turn ds [] []).bind fun r => .ok (.dic .o r.1 r.2)) fun d => KE K S H d Q) :
    ∃ W : Nat → Nat → Hp → Prop, (∃ m, W 0 m (upd H1 D0 (.dK []))) ∧ ∀ i m H, W i m H →
      (J.stop i H ∧ Q (.ref D0) H) ∨ (J.go i H ∧ ∃ Nx : Hp → Prop, (∀ H', Nx H' → ∃ m', m' < m ∧ W (i + 1) m' H') ∧ ∀ x H', J.yld i H x H' → g x (wipe σ own) H' fun σ2 H2 => wipe σ2 own = wipe σ own ∧ tYes σ2 H2 fun b H3 =>
        if b = true then tk σ2 H3 fun y H4 => tv σ2 H4 fun z H5 => ∃ kvs k, y = kV k ∧ H5 D0 = some (.dK kvs) ∧ kvs.length < sizeLine ∧ Nx (upd H5 D0 (.dK (putK kvs k z))) else Nx H3) := by
  have nS1 : S1 D0 = none := Same.none f1.sub nD
  refine ⟨fun i m H2 => m = ds.length - i ∧ i ≤ ds.length ∧ ∃ S2 ks acc vs B, Fut S1 H1 S2 H2 ∧ H2 D0 = some (.dK (ks.zip vs)) ∧ KL ks vs ∧ Owns K S2 H2 acc vs B ∧ cleans acc = true ∧ Fresh H1 S2 (D0 :: B) ∧
    Kont XR E H ((dcompL turn (ds.drop i) ks acc).bind fun r => .ok (.dic .o r.1 r.2)) (fun d => KE K S H d Q), ⟨ds.length, by simp, Nat.zero_le _, S1, [], [], [], [], (Fut.refl f1.sub).upd nD, upd_same, ⟨rfl, List.nodup_nil⟩, ⟨rfl, rfl⟩, rfl, ⟨by simp, fun p hp => by
      have : p = D0 := by simpa using hp
      subst this
      exact ⟨nD, nS1⟩⟩, by simpa using k⟩, ?_⟩
  rintro i m H2 ⟨rfl, hi, S2, ks, acc, vs, B, f2, hD, lk, ow, cl, fr, kk⟩
  have pH : P H2 := hP H2 (fun a o e => f2.hp a o (f1.sub a o e)) f2.hp
  have lacc := Owns.length _ _ _ ow
  by_cases hlt : i < ds.length
  · refine .inr ⟨J1.go i H2 pH hlt, fun H' => i + 1 ≤ ds.length ∧ ∃ S2 ks acc vs B, Fut S1 H1 S2 H' ∧ H' D0 = some (.dK (ks.zip vs)) ∧ KL ks vs ∧ Owns K S2 H' acc vs B ∧ cleans acc = true ∧ Fresh H1 S2 (D0 :: B) ∧
      Kont XR E H ((dcompL turn (ds.drop (i + 1)) ks acc).bind fun r => .ok (.dic .o r.1 r.2)) (fun d => KE K S H d Q), fun H' h => ⟨ds.length - (i + 1), by omega, rfl, h⟩, fun x H' y => ?_⟩
    have ei : ds[i]? = some ds[i] := List.getElem?_eq_getElem hlt
    have t9 : ∀ p ∈ D0 :: B, Hld H2 p := fun p hp => by
      rcases List.mem_cons.mp hp with rfl | hp
      · exact ⟨_, hD, trivial⟩
      · exact Owns.there _ _ _ ow p hp
    obtain ⟨S9, fy, ox2⟩ := J1.yld i H2 x H' _ S2 pH y ei f2.st f2.sub
    have fr := fr.fut fy t9
    have ow := ow.fut fy
    have hD := fy.hp _ _ hD
    have f2 := f2.trans fy
    clear t9 fy
    rw [List.drop_eq_getElem_cons hlt] at kk
    simp only [dcompL] at kk
    have t0 : ∀ p ∈ D0 :: B, Hld H' p := fun p hp => by
      rcases List.mem_cons.mp hp with rfl | hp
      · exact ⟨_, hD, trivial⟩
      · exact Owns.there _ _ _ ow p hp
    cases hr : turn ds[i] with
    | st => rw [hr] at kk; exact kk.elim
    | ex x => exact absurd hr (hx _ _)
    | ok r =>
      rw [hr] at kk
      refine step ds[i] x S9 H' (fun y z H5 => ∃ kvs k, y = kV k ∧ H5 D0 = some (.dK kvs) ∧ kvs.length < sizeLine ∧ _) f2 ox2 r hr (fun y S4 H4 By f4 oy ry => ?_)
      obtain ⟨q, z⟩ := r
      change Kont XR E H ((if (clean z && decide (ks.length < sizeLine) && !memK q ks) = true then dcompL turn (ds.drop (i + 1)) (ks ++ [q]) (acc ++ [z]) else R.st).bind _) _ at kk
      by_cases hc : (clean z && decide (ks.length < sizeLine) && !memK q ks) = true
      · rw [if_pos hc] at kk
        simp only [Bool.and_eq_true, decide_eq_true_eq, Bool.not_eq_true', memK, decide_eq_false_iff_not] at hc
        obtain ⟨⟨hc1, hc2⟩, hc3⟩ := hc
        have fr4 := fr.fut f4 t0
        have ow4 := ow.fut f4
        have nS4 : S4 D0 = none := (fr4.new D0 (by simp)).2
        have all := Fresh.app f4 f2.hp fr t0 ry
        have nd := all.nd
        have hD4 := f4.hp _ _ hD
        have hz : (ks.zip vs).length = ks.length := by rw [List.length_zip, lk.1]; omega
        have hn : valV (ks.zip vs) q = none := by
          have e := lookK_val ks acc vs B q lk.1 ow
          have hl : ∀ (ks : List Key) (ds : List D), q ∉ ks → lookK ks ds q = none := fun ks => by
            induction ks with
            | nil => intro ds _; cases ds <;> rfl
            | cons k0 ks ih =>
              intro ds h
              cases ds with
              | nil => rfl
              | cons d ds =>
                simp only [List.mem_cons, not_or] at h
                simp [lookK, Ne.symm h.1, ih ds h.2]
          rw [hl ks acc hc3] at e
          exact e
        have hput : putK (ks.zip vs) q y = (ks ++ [q]).zip (vs ++ [y]) := by
          rw [putK_new _ hn, List.zip_append lk.1]; rfl
        refine ⟨ks.zip vs, q, rfl, hD4, by rw [hz]; exact hc2, hlt, S4, ks ++ [q], acc ++ [z], vs ++ [y], B ++ By, (f2.trans f4).write nD nS4, by rw [upd_same, hput], ⟨by simp [lk.1], List.nodup_append.mpr ⟨lk.2, by simp, fun a ha b hb e => by simp at hb; subst e; subst hb; exact hc3 ha⟩⟩, Owns.append _ _ _ _ _ _ ?_ (Owns.one ?_), ?_, by simpa using all, kk⟩
        · refine Owns.keep (Same.refl _) _ _ _ (.inl cl) (fun p hp => upd_ne ?_) ow4
          rintro rfl
          simp at nd
          exact nd.1.1 hp
        · refine Own.keep (Same.refl _) _ _ _ (.inl hc1) (fun p hp => upd_ne ?_) oy
          rintro rfl
          simp at nd
          exact nd.1.2 hp
        · have : ∀ (a : List D), cleans a = true → cleans (a ++ [z]) = true := fun a => by
            induction a with
            | nil => intro _; simp [cleans, hc1]
            | cons x xs ih => intro h; simp only [cleans, Bool.and_eq_true] at h; simp [cleans, h.1, ih h.2]
          exact this acc cl
      · rw [if_neg hc] at kk
        exact kk.elim
  · have e : i = ds.length := by omega
    subst e
    refine .inl ⟨J1.stop _ H2 pH (Nat.le_refl _), ?_⟩
    rw [List.drop_length] at kk
    exact kk (.ref D0) S2 H2 (D0 :: B) (f1.trans f2) ⟨D0, vs, B, rfl, rfl, hD, lk, ow⟩ (fr.back f1.hp)
/-- a thing that is no data stays out of what is kept -/
theorem ext_out {S H S' H' : Hp} (f : Fut S H S' H') {p : Addr} {o : HO} (t : H p = some o) (i : ¬ Imm o) (n : S p = none) : S' p = none := by
  cases e : S' p with
  | none => rfl
  | some u =>
    exfalso
    rcases f.new p u e with z | z | ⟨z, i'⟩
    · rw [n] at z; cases z
    · rw [t] at z; cases z
    · rw [t] at z; cases z; exact i i'
theorem perm_of {xs ys : List Int} (h1 : xs.Pairwise (· < ·)) (h2 : ys.Nodup) (m : ∀ k, k ∈ xs ↔ k ∈ ys) : xs.Perm ys :=
  (List.perm_ext_iff_of_nodup (h1.imp fun h e => by omega) h2).mpr m
/-- a set comprehension's set, sorted: the loop -/
theorem ssetC {g : TG} {te : TE} {own : List Nat} {turn : D → R Int} {S H : Hp} {σ : St} {Q : VK} {ds : List D} {J : L2.It} {S1 H1 : Hp} {P : Hp → Prop} {XR : PySem.W.Frag} {E : XK} {w : World}
    (f1 : Fut S H S1 H1) (J1 : ItOk K J P S1 ds) (hP : ∀ H2, Same S1 H2 → Same H1 H2 → P H2) (hx : ∀ d x, turn d ≠ .ex x)
    (step : ∀ (d : D) (x : V) (S2 H2 : Hp) (Ps : VK), Fut S1 H1 S2 H2 → Own K S2 H2 d x [] →
      ∀ r, turn d = .ok r → (∀ S3 H3, Fut S2 H2 S3 H3 → Ps (.int r) H3) → g x (wipe σ own) H2 fun σ2 H3 => wipe σ2 own = wipe σ own ∧ te σ2 H3 Ps)
    {D0 : Addr} (nD : H1 D0 = none) (k : Kont XR E H ((ssetL turn ds []).bind fun xs => .ok (.lst .o ((sortI xs).map .int))) fun d => KE K S H d Q) :
    ∃ W : Nat → Nat → Hp → Prop, (∃ m, W 0 m (upd H1 D0 (SetO w D0 (fun _ => false) 0))) ∧ SetWay w J g te own σ D0 (fun v H => rSortedSet w [v] H Q) W := by
  have nS1 : S1 D0 = none := Same.none f1.sub nD
  have ni : ∀ (M : Int → Bool) n, ¬ Imm (SetO w D0 M n) := fun _ _ h => h
  refine ⟨fun i m H2 => m = ds.length - i ∧ i ≤ ds.length ∧ ∃ S2 acc, Fut S1 H1 S2 H2 ∧ H2 D0 = some (SetO w D0 (fun j => decide (j ∈ acc)) acc.length) ∧ acc.Nodup ∧ acc.length < 64 ∧ S2 D0 = none ∧
    Kont XR E H ((ssetL turn (ds.drop i) acc).bind fun xs => .ok (.lst .o ((sortI xs).map .int))) (fun d => KE K S H d Q), ⟨ds.length, by simp, Nat.zero_le _, S1, [], (Fut.refl f1.sub).upd nD, by rw [upd_same]; simp, List.nodup_nil, by simp, nS1, by simpa using k⟩, ?_⟩
  rintro i m H2 ⟨rfl, hi, S2, acc, f2, hD, nd, l64, nS2, kk⟩
  have pH : P H2 := hP H2 (fun a o e => f2.hp a o (f1.sub a o e)) f2.hp
  by_cases hlt : i < ds.length
  · refine .inr ⟨J1.go i H2 pH hlt, fun H' => i + 1 ≤ ds.length ∧ ∃ S2 acc, Fut S1 H1 S2 H' ∧ H' D0 = some (SetO w D0 (fun j => decide (j ∈ acc)) acc.length) ∧ acc.Nodup ∧ acc.length < 64 ∧ S2 D0 = none ∧
      Kont XR E H ((ssetL turn (ds.drop (i + 1)) acc).bind fun xs => .ok (.lst .o ((sortI xs).map .int))) (fun d => KE K S H d Q), fun H' h => ⟨ds.length - (i + 1), by omega, rfl, h⟩, fun x H' y => ?_⟩
    have ei : ds[i]? = some ds[i] := List.getElem?_eq_getElem hlt
    obtain ⟨S9, fy, ox2⟩ := J1.yld i H2 x H' _ S2 pH y ei f2.st f2.sub
    have nS9 := ext_out fy hD (ni _ _) nS2
    have hD := fy.hp _ _ hD
    have f2 := f2.trans fy
    rw [List.drop_eq_getElem_cons hlt] at kk
    simp only [ssetL] at kk
    cases hr : turn ds[i] with
    | st => rw [hr] at kk; exact kk.elim
    | ex x => exact absurd hr (hx _ _)
    | ok r =>
      rw [hr] at kk
      refine step ds[i] x S9 H' _ f2 ox2 r hr (fun S4 H4 f4 => ?_)
      change Kont XR E H ((if acc.length < 63 then ssetL turn (ds.drop (i + 1)) (if r ∈ acc then acc else r :: acc) else R.st).bind _) _ at kk
      by_cases hc : acc.length < 63
      · rw [if_pos hc] at kk
        have nS4 := ext_out f4 hD (ni _ _) nS9
        have hD4 := f4.hp _ _ hD
        refine ⟨r, _, _, rfl, hD4, by unfold scanBound; omega, hlt, S4, (if r ∈ acc then acc else r :: acc), (f2.trans f4).write nD nS4, ?_, ?_, ?_, nS4, kk⟩
        · rw [upd_same]
          by_cases hm : r ∈ acc
          · simp only [hm, decide_true, if_true]
            congr 2
            funext j
            by_cases hj : j = r
            · subst hj; simp [hm]
            · simp [hj]
          · simp only [hm, decide_false, if_false, Bool.false_eq_true, List.length_cons]
            congr 2
            funext j
            simp [List.mem_cons, Bool.or_comm]
        · split
          · exact nd
          · rename_i hm; exact List.nodup_cons.mpr ⟨hm, nd⟩
        · split
          · omega
          · simp only [List.length_cons]; omega
      · rw [if_neg hc] at kk
        exact kk.elim
  · have e : i = ds.length := by omega
    subst e
    refine .inl ⟨J1.stop _ H2 pH (Nat.le_refl _), D0, _, acc.length, rfl, hD, l64, fun ns p pw mem _ n => ?_⟩
    rw [List.drop_length] at kk
    rw [sortI_eq (perm_of pw nd fun k => by rw [mem k]; simp) (pw.imp fun h => Int.le_of_lt h)]
    exact KE.newL kk (f1.trans f2) (owns_ints _) .nil n
end EV
namespace EV
open PySem L2
variable {K : Kx} {XR : PySem.W.Frag} {Φ : Tab}
/-- what the text's classes are -/
structure FK (K : PySem.W.Frag) (Φ : Tab) : Prop where
  isb : ∀ c, (Φ.sub c c).isSome = true → ∀ t ∈ (["NoneType", "bool", "int", "str", "list", "tuple", "dict"] : List String), PySem.W.kitOne K (.type t) (.ref (He.ga K c)) = some false
  isc : ∀ c' c b, Φ.sub c' c = some b → C8.InsC K (He.ga K c') ∧ PySem.W.kitOne K (.ref (He.ga K c')) (.ref (He.ga K c)) = some b
  exc : ∀ c' c b, Φ.xsub c' c = some b → PySem.W.exmOne K (.ref (He.ga K c')) (clsU K c) = some b ∧ ExcC K (He.ga K c') ∧ PySem.W.kitOne K (.ref (He.ga K c')) (clsU K c) = some b
section
variable {S H S0 H0 : Hp}
theorem zip_lookup : ∀ {ks : List Str} {ds : List D} {vs : List V} {B : List Addr} {n : Str} {d : D}, Owns K S H ds vs B → lookK ks ds n = some d → ∃ w B1 B2 B3, (ks.zip vs).lookup n = some w ∧ B = B1 ++ B2 ++ B3 ∧ Own K S H d w B2
  | [], ds, vs, B, n, d, h, e => by cases ds <;> cases e
  | k :: ks, [], vs, B, n, d, h, e => by cases e
  | k :: ks, d0 :: ds, vs, B, n, d, h, e => by
    obtain ⟨v, vs', B1, B2, rfl, rfl, r, rs⟩ := h
    simp only [lookK] at e
    rw [List.zip_cons_cons, List.lookup_cons]
    by_cases h : k = n
    · subst h
      rw [if_pos rfl] at e
      cases e
      exact ⟨v, [], B1, B2, by simp, by simp, r⟩
    · rw [if_neg h] at e
      have : (n == k) = false := by simpa using fun z => h z.symm
      rw [this]
      obtain ⟨w, C1, C2, C3, q1, rfl, q3⟩ := zip_lookup rs e
      exact ⟨w, B1 ++ C1, C2, C3, q1, by simp, q3⟩
theorem zip_none {α : Type} : ∀ {ks : List Str} {vs : List α} {n : Str}, n ∉ ks → (ks.zip vs).lookup n = none
  | [], vs, n, h => by cases vs <;> rfl
  | k :: ks, [], n, h => rfl
  | k :: ks, v :: vs, n, h => by
    simp only [List.mem_cons, not_or] at h
    rw [List.zip_cons_cons, List.lookup_cons]
    have : (n == k) = false := by simpa using h.1
    rw [this]
    exact zip_none h.2
theorem flat_own {d : D} {v : V} (h : flat d = some v) : Own K S H d v [] := by
  cases d <;> cases h <;> exact ⟨rfl, rfl⟩
theorem flats_own : ∀ {ds : List D} {vs : List V}, flats ds = some vs → Owns K S H ds vs []
  | [], vs, h => by cases h; exact ⟨rfl, rfl⟩
  | d :: ds, vs, h => by
    simp only [flats] at h
    split at h
    · rename_i v vs' h1 h2
      cases h
      exact ⟨v, vs', [], [], rfl, rfl, flat_own h1, flats_own h2⟩
    · cases h
theorem Own.objR (s : Same S H) {f : Fl} {c : Str} {ks : List Str} {ds : List D} {v : V} {B : List Addr} (h : Own K S H (.obj f c ks ds) v B) :
    ∃ a dx vs B', v = .ref a ∧ H a = some (.ins (He.ga K c) dx (ks.zip vs)) ∧ KL ks vs ∧ Owns K S H ds vs B' ∧ B'.Sublist B := by
  cases f with
  | z => obtain ⟨_, a, dx, vs, e, q, l, r⟩ := h; exact ⟨a, dx, vs, [], e, s _ _ q, l, r, List.nil_sublist _⟩
  | b => obtain ⟨_, a, dx, vs, e, q, l, r⟩ := h; exact ⟨a, dx, vs, [], e, q, l, r, List.nil_sublist _⟩
  | o => obtain ⟨a, dx, vs, B', e, eB, q, q2, l, r⟩ := h; subst eB; exact ⟨a, dx, vs, B', e, q, l, r, (List.sublist_cons_self _ _).trans (List.sublist_cons_self _ _)⟩
theorem isObj_inv {c : Str} {x : D} (h : isObj c x = true) : ∃ f ks ds, x = .obj f c ks ds := by
  cases x <;> simp [isObj] at h
  subst h; exact ⟨_, _, _, rfl⟩
theorem isObjN_inv {c n : Str} {x : D} (h : isObjN c n x = true) : ∃ f ks ds, x = .obj f c ks ds ∧ n ∉ ks := by
  cases x <;> simp [isObjN, memK] at h
  obtain ⟨rfl, h⟩ := h; exact ⟨_, _, _, rfl, h⟩
theorem fldC {c n : Str} {x d : D} {v : V} {B : List Addr} (s : Same S H) (e : dFld c n x = some d) (h : Own K S H x v B) : ∃ a dx fs w B', v = .ref a ∧ H a = some (.ins (He.ga K c) dx fs) ∧ fs.lookup n = some w ∧ Own K S H d w B' ∧ B'.Sublist B := by
  unfold dFld at e
  split at e
  · split at e
    · rename_i h1
      subst h1
      obtain ⟨a, dx, vs, B', e1, q, l, o, sl⟩ := Own.objR s h
      obtain ⟨w, C1, C2, C3, q1, rfl, q3⟩ := zip_lookup o e
      exact ⟨a, dx, _, w, C2, e1, q, q1, q3, (mid_sub _ _ _).trans sl⟩
    · cases e
  · cases e
theorem noEx_bindK {α β : Type} {r : R α} {f : α → R β} {P : β → Prop} {E : XK} {H : Hp} (k : Kont XR E H ((noEx r).bind f) P) : ∃ a, r = .ok a ∧ Kont XR E H (f a) P := by
  cases r with
  | ok a => exact ⟨a, rfl, k⟩
  | ex x => exact k.elim
  | st => exact k.elim
theorem dNegK {n : Bool} {r : D} {Q : VK} {E : XK} (k : Kont XR E H0 (dNeg n r) fun d => KE K S0 H0 d Q) : ∃ b, r = .bl b ∧ KE K S0 H0 (.bl (if n then !b else b)) Q := by
  cases r <;> first | exact k.elim | exact ⟨_, rfl, k⟩
theorem fresh2 {H0 S : Hp} {B1 B2 : List Addr} (r : Fresh H0 S (B1 ++ B2)) : Fresh H0 S (B2 ++ (B1 ++ [])) := by
  rw [List.append_nil]
  have p : (B1 ++ B2).Perm (B2 ++ B1) := List.perm_append_comm
  exact ⟨p.nodup_iff.mp r.nd, fun q hq => r.new q (p.mem_iff.mpr hq)⟩
/-- a def asked for a truth -/
theorem askC {f : Nat} {ds : List D} {vs : List V} {B : List Addr} {Q : VK} {n : Bool} {E : XK} (f1 : Fut S0 H0 S H) (o : Owns K S H ds vs B) (r : Fresh H0 S B) (k : Kont XR E H0 ((noEx (callD (Φ f) ds)).bind fun r => dNeg n r) fun d => KE K S0 H0 d Q) :
    spF K XR (Φ f).n (Φ f).sem vs H (fun v H' => ∃ b, v = .bl b ∧ Q (.bl (if n then !b else b)) H') (fun _ _ _ => False) := by
  obtain ⟨r0, e, k⟩ := noEx_bindK k
  obtain ⟨b, rfl, k⟩ := dNegK k
  refine callC (S0 := S0) (H0 := H0) f1 o r ?_
  rw [e]
  intro v S' H' B' g od _
  exact ⟨b, od.1, KE.bl k g⟩
end
theorem iff_tt {A B : Prop} (h : A) : if true = true then A else B := by rw [if_pos rfl]; exact h
theorem iff_ff {A B : Prop} (h : B) : if false = true then A else B := by rw [if_neg Bool.false_ne_true]; exact h
theorem iff_T {A B : Type} {P : Prop} (h : P) : P := h
theorem iff_F {A B : Type} {P : Prop} (h : P) : P := h
theorem noE {σ : St} {r : R D} {H : Hp} {P : D → Prop} (h : ∃ d, r = .ok d ∧ P d) : Kont XR (E0' σ) H r P := by
  obtain ⟨d, rfl, p⟩ := h; exact p
section
variable {K : Kz} (fk : FK K.k.K Φ) (hξ : Φ.ξ = K.x)
include fk hξ
mutual
theorem corE (E : SX) : ∀ (c : C) {S H : Hp} {σ : St} {env : Env} {As : Nat → List Addr} {Q : VK}, Sta K S H σ env As → Kont XR (E σ) H (evE Φ c env) (fun d => KE K S H d Q) → tE K XR Φ.fd E c σ H Q
  | .slot i, S, H, σ, env, As, Q, s, k => by
    simp only [evE] at k
    have k2 : Kont XR (E σ) H (get env i) (fun d => KE K S H (bb d) Q) := k.bind (Same.refl _) fun d _ k => k
    cases e : get env i with
    | st => rw [e] at k2; exact k2.elim
    | ex x => unfold get at e; split at e <;> cases e
    | ok d =>
      rw [e] at k2
      obtain ⟨v, h1, h2⟩ := s.val i d (get_some e)
      exact ⟨v, h1, k2 v S H [] (Fut.refl s.sub) (h2.borrow s.sub) .nil⟩
  | .non, S, H, σ, env, As, Q, s, k => KE.non k (Fut.refl s.sub)
  | .bl b, S, H, σ, env, As, Q, s, k => KE.bl k (Fut.refl s.sub)
  | .int i, S, H, σ, env, As, Q, s, k => KE.int k (Fut.refl s.sub)
  | .str z, S, H, σ, env, As, Q, s, k => KE.str k (Fut.refl s.sub)
  | .bin op a b, S, H, σ, env, As, Q, s, k => by
    simp only [evE] at k
    refine corE E a s (k.bind (Same.refl _) fun x _ k => ?_)
    intro v S1 H1 B1 f1 o1 r1
    refine corE E b (s.fut f1) (k.bind f1.hp fun y _ k => ?_)
    intro u S2 H2 B2 f2 o2 r2
    obtain ⟨d, e, k⟩ := k.of
    exact binC e (f1.trans f2) (o1.fut f2) o2 (Fresh.app f2 f1.hp r1 (Own.there _ _ _ o1) r2) k
  | .neg a, S, H, σ, env, As, Q, s, k => by
    simp only [evE] at k
    refine corE E a s (k.bind (Same.refl _) fun x _ k => ?_)
    intro v S1 H1 B1 f1 o1 r1
    obtain ⟨i, e, k⟩ := k.ofBind
    cases x <;> cases e
    exact ⟨i, o1.1, KE.int k f1⟩
  | .cmp op a b, S, H, σ, env, As, Q, s, k => by
    simp only [evE] at k
    refine corE E a s (k.bind (Same.refl _) fun x _ k => ?_)
    intro v S1 H1 B1 f1 o1 r1
    refine corE E b (s.fut f1) (k.bind f1.hp fun y _ k => ?_)
    intro u S2 H2 B2 f2 o2 r2
    obtain ⟨d, e, k⟩ := k.of
    exact cmpC e f2.sub (o1.fut f2) o2 fun b e => by subst e; exact KE.bl k (f1.trans f2)
  | .chain op op' a b c, S, H, σ, env, As, Q, s, k => by
    simp only [evE] at k
    refine corE E a s (k.bind (Same.refl _) fun x _ k => ?_)
    intro v S1 H1 B1 f1 o1 r1
    refine corE E b (s.fut f1) (k.bind f1.hp fun y _ k => ?_)
    intro u S2 H2 B2 f2 o2 r2
    obtain ⟨d, e, k⟩ := k.ofBind
    refine cmpC e f2.sub (o1.fut f2) o2 fun t et => ?_
    subst et
    refine ⟨t, rfl, ?_⟩
    cases t with
    | true =>
      refine iff_tt ?_
      refine corE E c ((s.fut f1).fut f2) (Kont.bind k (f1.hp.trans f2.hp) fun z _ k => ?_)
      intro w S3 H3 B3 f3 o3 r3
      obtain ⟨d, e, k⟩ := k.of
      exact cmpC e f3.sub (o2.fut f3) o3 fun b e => by subst e; exact KE.bl k ((f1.trans f2).trans f3)
    | false => exact iff_ff (KE.bl k (f1.trans f2))
  | .isN n a, S, H, σ, env, As, Q, s, k => by
    simp only [evE] at k
    have hd : ∀ (x : D) (v : V) (S1 H1 : Hp) (B : List Addr), Own K S1 H1 x v B → (decide (v = .non) = match x with | .non => true | _ => false) := fun x v S1 H1 B o => by
      cases x with
      | non => rw [o.1]; rfl
      | bl _ => rw [o.1]; rfl
      | int _ => rw [o.1]; rfl
      | str _ => rw [o.1]; rfl
      | tup _ => obtain ⟨_, _, _, rfl, _⟩ := o; rfl
      | lst f _ => cases f <;> first | (obtain ⟨_, _, _, rfl, _⟩ := o; rfl) | (obtain ⟨_, _, _, rfl, _⟩ := o; rfl)
      | dic f _ _ => cases f <;> first | (obtain ⟨_, _, _, rfl, _⟩ := o; rfl) | (obtain ⟨_, _, _, rfl, _⟩ := o; rfl)
      | dit f _ _ => cases f <;> first | (obtain ⟨_, _, _, rfl, _⟩ := o; rfl) | (obtain ⟨_, _, _, rfl, _⟩ := o; rfl)
      | scr _ => obtain ⟨_, _, rfl, _⟩ := o; rfl
      | xcp => rw [o.1]; rfl
      | obj f _ _ _ => cases f <;> first | (obtain ⟨_, _, _, _, rfl, _⟩ := o; rfl) | (obtain ⟨_, _, _, _, rfl, _⟩ := o; rfl)
    have fin : ∀ (x : D) (v : V) (S1 H1 : Hp) (B : List Addr), Fut S H S1 H1 → Own K S1 H1 x v B → Kont XR (E σ) H (match x with | .non => .ok (.bl !n) | _ => .ok (.bl n)) (fun d => KE K S H d Q) → Q (.bl (if n then !decide (v = .non) else decide (v = .non))) H1 := fun x v S1 H1 B f o k => by
      have e := hd x v S1 H1 B o
      cases x with
      | non => rw [e]; cases n <;> exact KE.bl k f
      | bl _ => rw [e]; cases n <;> exact KE.bl k f
      | int _ => rw [e]; cases n <;> exact KE.bl k f
      | str _ => rw [e]; cases n <;> exact KE.bl k f
      | tup _ => rw [e]; cases n <;> exact KE.bl k f
      | lst _ _ => rw [e]; cases n <;> exact KE.bl k f
      | dic _ _ _ => rw [e]; cases n <;> exact KE.bl k f
      | dit _ _ _ => rw [e]; cases n <;> exact KE.bl k f
      | scr _ => rw [e]; cases n <;> exact KE.bl k f
      | xcp => rw [e]; cases n <;> exact KE.bl k f
      | obj _ _ _ _ => rw [e]; cases n <;> exact KE.bl k f
    have main : tE K XR Φ.fd E a σ H (fun x H1 => Q (.bl (if n then !decide (x = .non) else decide (x = .non))) H1) :=
      corE E a s (k.bind (Same.refl _) fun x _ k => fun v S1 H1 B1 f1 o1 r1 => fin x v S1 H1 B1 f1 o1 k)
    cases n with
    | true => exact main
    | false => exact main
  | .and es, S, H, σ, env, As, Q, s, k => corAnds E es s (by simpa only [evE] using k)
  | .or es, S, H, σ, env, As, Q, s, k => corOrs E es s (by simpa only [evE] using k)
  | .not a, S, H, σ, env, As, Q, s, k => by
    simp only [evE] at k
    refine corE E a s (k.bind (Same.refl _) fun x _ k => ?_)
    intro v S1 H1 B1 f1 o1 r1
    cases x <;> first | exact k.elim | skip
    exact ⟨_, o1.1, KE.bl k f1⟩
  | .ite c a b, S, H, σ, env, As, Q, s, k => by
    simp only [evE] at k
    refine corT E c s (k.bind (Same.refl _) fun t _ k => ?_)
    intro S1 H1 f1
    cases t with
    | true => exact iff_tt (corE E a (s.fut f1) (Kont.imp k f1.hp fun d _ k => k.fut f1))
    | false => exact iff_ff (corE E b (s.fut f1) (Kont.imp k f1.hp fun d _ k => k.fut f1))
  | .tup es, S, H, σ, env, As, Q, s, k => by
    simp only [evE] at k
    refine corA E es s (k.bind (Same.refl _) fun ds _ k => ?_)
    intro vs S1 H1 B1 f1 o1 r1
    split at k
    · rename_i h
      rw [Bool.and_eq_true] at h
      exact ⟨by rw [← Owns.length _ _ _ o1]; exact of_decide_eq_true h.2, fun p n => KE.newT k f1 o1 h.1 r1 n⟩
    · exact k.elim
  | .lst es, S, H, σ, env, As, Q, s, k => by
    simp only [evE] at k
    refine corA E es s (k.bind (Same.refl _) fun ds _ k => ?_)
    intro vs S1 H1 B1 f1 o1 r1
    split at k
    · rename_i h
      exact ⟨by rw [← Owns.length _ _ _ o1]; exact of_decide_eq_true h, fun p n => KE.newL k f1 o1 r1 n⟩
    · exact k.elim
  | .dic, S, H, σ, env, As, Q, s, k => by
    intro p n
    exact k (.ref p) S _ [p] ((Fut.refl s.sub).upd n) ⟨p, [], [], rfl, rfl, upd_same, ⟨rfl, List.nodup_nil⟩, rfl, rfl⟩ ⟨by simp, fun q hq => by
      have : q = p := by simpa using hq
      subst this
      exact ⟨n, Same.none s.sub n⟩⟩
  | .dit, S, H, σ, env, As, Q, s, k => by
    intro p n
    exact k (.ref p) S _ [p] ((Fut.refl s.sub).upd n) ⟨p, [], [], rfl, rfl, upd_same, ⟨rfl, List.nodup_nil⟩, rfl, rfl⟩ ⟨by simp, fun q hq => by
      have : q = p := by simpa using hq
      subst this
      exact ⟨n, Same.none s.sub n⟩⟩
  | .dic1 a b, S, H, σ, env, As, Q, s, k => by
    simp only [evE] at k
    intro p n
    have f0 : Fut S H S (upd H p (.dK [])) := (Fut.refl s.sub).upd n
    refine corE E a (s.fut f0) (k.bind f0.hp fun x _ k => ?_)
    intro v S1 H1 B1 f1 o1 r1
    refine corE E b (s.fut (f0.trans f1)) (k.bind (f0.hp.trans f1.hp) fun y _ k => ?_)
    intro u S2 H2 B2 f2 o2 r2
    obtain ⟨q, eq, k⟩ := k.ofBind
    split at k
    · rename_i c
      have e2 : H2 p = some (.dK []) := f2.hp _ _ (f1.hp _ _ upd_same)
      have n2 : S2 p = none := out_keep (f1.trans f2) ⟨_, upd_same, trivial⟩ (Same.none s.sub n)
      have nB : p ∉ B2 := fun z => by
        have := (r2.new p z).1
        rw [f1.hp _ _ upd_same] at this
        cases this
      have ev := Own.key eq o1
      subst ev
      refine ⟨e2, [(q, u)], rfl, by simp, ?_⟩
      have r3 : Fresh H S2 (p :: B2) := ⟨List.nodup_cons.mpr ⟨nB, r2.nd⟩, fun b hb => by
        rcases List.mem_cons.mp hb with rfl | hb
        · exact ⟨n, n2⟩
        · exact ⟨Same.none (f0.hp.trans f1.hp) (r2.new b hb).1, (r2.new b hb).2⟩⟩
      refine k (.ref p) S2 _ (p :: B2) (((f0.trans f1).trans f2).write n n2) ⟨p, [u], B2, rfl, rfl, upd_same, ⟨rfl, by simp⟩, Owns.one ?_⟩ r3
      exact Own.keep (Same.refl _) _ _ _ (.inl c) (fun b hb => upd_ne (by rintro rfl; exact nB hb)) o2
    · exact k.elim
  | .ix a b, S, H, σ, env, As, Q, s, k => by
    simp only [evE] at k
    refine corE E a s (k.bind (Same.refl _) fun x _ k => ?_)
    intro v S1 H1 B1 f1 o1 r1
    refine corE E b (s.fut f1) (k.bind f1.hp fun y _ k => ?_)
    intro u S2 H2 B2 f2 o2 r2
    obtain ⟨d, e, k⟩ := k.of
    exact ixC e (f1.trans f2) (o1.fut f2) o2 (Fresh.app f2 f1.hp r1 (Own.there _ _ _ o1) r2) k
  | .cut a lo hi, S, H, σ, env, As, Q, s, k => by
    simp only [evE] at k
    refine corE E a s (k.bind (Same.refl _) fun x _ k => ?_)
    intro v S1 H1 B1 f1 o1 r1
    refine corO E lo (s.fut f1) (k.bind f1.hp fun l _ k => ?_)
    intro S2 H2 f2
    refine corO E hi ((s.fut f1).fut f2) (k.bind (f1.hp.trans f2.hp) fun l _ k => ?_)
    intro S3 H3 f3
    obtain ⟨d, e, k⟩ := k.of
    exact cutC e ((f1.trans f2).trans f3) (o1.fut (f2.trans f3)) (r1.fut (f2.trans f3) (Own.there _ _ _ o1)) k
  | .blt b a, S, H, σ, env, As, Q, s, k => by
    simp only [evE] at k
    refine corE E a s (k.bind (Same.refl _) fun x _ k => ?_)
    intro v S1 H1 B1 f1 o1 r1
    obtain ⟨d, e, k⟩ := k.of
    exact bC e f1 o1 r1 k
  | .isi tn a, S, H, σ, env, As, Q, s, k => by
    simp only [evE] at k
    refine corE E a s (k.bind (Same.refl _) fun x _ k => ?_)
    intro v S1 H1 B1 f1 o1 r1
    obtain ⟨d, e, k⟩ := k.of
    have hn : (∀ f c ks ds, x ≠ .obj f c ks ds) ∧ (∀ f ks ds, x ≠ .dit f ks ds) ∧ (∀ ns, x ≠ .scr ns) ∧ x ≠ .xcp := by
      refine ⟨?_, ?_, ?_, ?_⟩
      · rintro _ _ _ _ rfl; simp [dIsi] at e
      · rintro _ _ _ rfl; simp [dIsi] at e
      · rintro _ rfl; simp [dIsi] at e
      · rintro rfl; simp [dIsi] at e
    have tyx := tyC o1 f1.sub hn.1 hn.2.1 hn.2.2.1 hn.2.2.2
    have e2 : ∃ b, kitB (tyName x) tn = some b ∧ d = .bl b := by
      cases x <;> first | (exact Option.map_eq_some_iff.mp e |>.imp fun b h => ⟨h.1, h.2.symm⟩) | cases e
    obtain ⟨b, e3, rfl⟩ := e2
    exact ⟨v, _, _, _, b, rfl, .ty _, tyx, kit_ty e3, KE.bl k f1⟩
  | .call f es, S, H, σ, env, As, Q, s, k => by
    simp only [evE] at k
    refine corA E es s (k.bind (Same.refl _) fun ds _ k => ?_)
    intro vs S1 H1 B1 f1 o1 r1
    exact callC f1 o1 r1 k
  | .comp it tg own c e, S, H, σ, env, As, Q, s, k => by
    simp only [evE] at k
    refine corI E it true s (k.bind (Same.refl _) fun ds _ k => ?_)
    intro J S1 H1 f1 J1 z
    split at k
    · exact k.elim
    rename_i hw
    simp only [Bool.not_eq_true', Bool.not_eq_false] at hw
    intro D0 nD
    refine compC f1 J1 (fun H2 h1 h2 => ⟨h1, fun _ => h2⟩) (fun _ _ => noEx_ne) ?_ nD k
    intro d x S2 H2 Pn Ps f2 ox r hr hn hs
    have hr := noEx_ok hr
    have sw := ((s.fut f1).fut f2).wipe own
    cases h1 : setTg tg d (wipeE env own) with
    | st => rw [h1] at hr; cases hr
    | ex x => rw [h1] at hr; cases hr
    | ok env' =>
      rw [h1] at hr
      refine setTgC sw h1 ox fun σ' As' s' l hk _ => ⟨?_, ?_⟩
      · refine wipe_same (by rw [l, wipe_length]) fun j hj => hk j fun hm => hj ?_
        have := List.all_eq_true.mp hw j hm
        simpa using this
      · refine corTo E0' c s' ?_
        change ((evTo Φ c env').bind fun b => if b then (evE Φ e env').bind fun x => .ok (some x) else .ok none) = .ok r at hr
        cases hb : evTo Φ c env' with
        | st => rw [hb] at hr; cases hr
        | ex x => rw [hb] at hr; cases hr
        | ok b =>
          rw [hb] at hr
          intro S3 H3 f3
          cases b with
          | false => 
            refine iff_ff ?_
            cases hr
            exact hn S3 H3 f3 rfl
          | true =>
            refine iff_tt ?_
            change ((evE Φ e env').bind fun x => .ok (some x)) = .ok r at hr
            refine corE E0' e (s'.fut f3) ?_
            cases he : evE Φ e env' with
            | st => rw [he] at hr; cases hr
            | ex x => rw [he] at hr; cases hr
            | ok y =>
              rw [he] at hr
              cases hr
              exact (hs y rfl).fut f3
  | .dcomp it tg own c e, S, H, σ, env, As, Q, s, k => by
    simp only [evE] at k
    refine corI E it true s (k.bind (Same.refl _) fun ds _ k => ?_)
    intro J S1 H1 f1 J1 z
    split at k
    · exact k.elim
    rename_i hw
    simp only [Bool.not_eq_true', Bool.not_eq_false] at hw
    intro D0 nD
    refine dcompC f1 J1 (fun H2 h1 h2 => ⟨h1, fun _ => h2⟩) (fun _ _ => noEx_ne) ?_ nD k
    intro d x S2 H2 Ps f2 ox r hr hs
    have hr := noEx_ok hr
    have sw := ((s.fut f1).fut f2).wipe own
    cases h1 : setTg tg d (wipeE env own) with
    | st => rw [h1] at hr; cases hr
    | ex x => rw [h1] at hr; cases hr
    | ok env' =>
      rw [h1] at hr
      refine setTgC sw h1 ox fun σ' As' s' l hk _ => ⟨?_, ?_⟩
      · refine wipe_same (by rw [l, wipe_length]) fun j hj => hk j fun hm => hj ?_
        have := List.all_eq_true.mp hw j hm
        simpa using this
      · change ((evE Φ c env').bind fun x => (R.of (keyOf x)).bind fun q => (evE Φ e env').bind fun y => .ok (q, y)) = .ok r at hr
        refine corE E0' c s' ?_
        cases hb : evE Φ c env' with
        | st => rw [hb] at hr; cases hr
        | ex x => rw [hb] at hr; cases hr
        | ok b =>
          rw [hb] at hr
          intro y S3 H3 B3 f3 o3 r3
          change ((R.of (keyOf b)).bind fun q => (evE Φ e env').bind fun y => .ok (q, y)) = .ok r at hr
          cases hq : keyOf b with
          | none => rw [hq] at hr; cases hr
          | some q =>
            rw [hq] at hr
            change ((evE Φ e env').bind fun y => .ok (q, y)) = .ok r at hr
            refine corE E0' e (s'.fut f3) ?_
            cases he : evE Φ e env' with
            | st => rw [he] at hr; cases hr
            | ex x => rw [he] at hr; cases hr
            | ok w =>
              rw [he] at hr
              cases hr
              intro u S4 H4 B4 f4 o4 r4
              rw [Own.key hq o3]
              exact hs u S4 H4 B4 (f3.trans f4) o4 (r4.back f3.hp)
  | .sset it tg own e, S, H, σ, env, As, Q, s, k => by
    intro w
    simp only [evE] at k
    show tI K XR Φ.fd E it σ H fun J G => _
    refine corI E it true s (k.bind (Same.refl _) fun ds _ k => ?_)
    intro J S1 H1 f1 J1 z
    split at k
    · exact k.elim
    rename_i hw
    simp only [Bool.not_eq_true', Bool.not_eq_false] at hw
    intro D0 nD
    refine ssetC f1 J1 (fun H2 h1 h2 => ⟨h1, fun _ => h2⟩) (fun _ _ => noEx_ne) ?_ nD k
    intro d x S2 H2 Ps f2 ox r hr hs
    have hr := noEx_ok hr
    have sw := ((s.fut f1).fut f2).wipe own
    cases h1 : setTg tg d (wipeE env own) with
    | st => rw [h1] at hr; cases hr
    | ex x => rw [h1] at hr; cases hr
    | ok env' =>
      rw [h1] at hr
      refine setTgC sw h1 ox fun σ' As' s' l hk _ => ⟨?_, ?_⟩
      · refine wipe_same (by rw [l, wipe_length]) fun j hj => hk j fun hm => hj ?_
        have := List.all_eq_true.mp hw j hm
        simpa using this
      · change ((evE Φ e env').bind fun x => R.of (dInt? x)) = .ok r at hr
        refine corE E0' e s' ?_
        cases he : evE Φ e env' with
        | st => rw [he] at hr; cases hr
        | ex x => rw [he] at hr; cases hr
        | ok y =>
          rw [he] at hr
          change R.of (dInt? y) = .ok r at hr
          cases y <;> try (cases hr; done)
          cases hr
          intro v S3 H3 B3 f3 o3 r3
          rw [o3.1]
          exact hs S3 H3 f3
  | .mn a b, S, H, σ, env, As, Q, s, k => by
    simp only [evE] at k
    refine corE E a s (k.bind (Same.refl _) fun x _ k => ?_)
    intro v S1 H1 B1 f1 o1 r1
    refine corE E b (s.fut f1) (k.bind f1.hp fun y _ k => ?_)
    intro u S2 H2 B2 f2 o2 r2
    obtain ⟨i, e1, k⟩ := k.ofBind
    obtain ⟨j, e2, k⟩ := k.ofBind
    obtain rfl : x = .int i := by cases x <;> cases e1 <;> rfl
    obtain rfl : y = .int j := by cases y <;> cases e2 <;> rfl
    exact ⟨i, j, by rw [o1.1, o2.1], KE.int k (f1.trans f2)⟩
  | .flt c i t, S, H, σ, env, As, Q, s, k => by
    simp only [evE] at k
    refine corE E c s (k.bind (Same.refl _) fun x _ k => ?_)
    intro v S1 H1 B1 f1 o1 r1
    split at k
    rotate_left
    · exact k.elim
    rename_i ds
    split at k
    rotate_left
    · exact k.elim
    rename_i h
    simp only [Bool.and_eq_true, decide_eq_true_eq] at h
    obtain ⟨a, vs, B', rfl, rfl, hq, ow⟩ := o1
    refine ⟨a, rfl, .inl ⟨vs, .inl (.inl hq), ?_⟩⟩
    intro D0 nD
    refine fltC f1 hq ow h.1.1 (r1.sub (List.sublist_cons_self _ _)) h.2 (by rw [s.len]; exact h.1.2) (fun _ _ => noEx_ne) ?_ nD k
    intro d x S2 H2 Pn f2 ox b hr hn
    have hr := noEx_ok hr
    have sw := ((s.fut f1).fut f2).wipe [i]
    cases h1 : setTg (.name i) (bb d) (wipeE env [i]) with
    | st => rw [h1] at hr; cases hr
    | ex x => rw [h1] at hr; cases hr
    | ok env' =>
      rw [h1] at hr
      refine setTgC (Q := fun σ2 H2 => tT K XR Φ.fd E0' t σ2 H2 Pn) sw h1 ox fun σ' As' s' l hk _ => ?_
      refine corT E0' t s' ?_
      change evT Φ t env' = .ok b at hr
      rw [hr]
      exact hn
  | .fld c n a, S, H, σ, env, As, Q, s, k => by
    simp only [evE] at k
    refine corE E a s (k.bind (Same.refl _) fun x _ k => ?_)
    intro v S1 H1 B1 f1 o1 r1
    obtain ⟨d, e, k⟩ := k.of
    obtain ⟨a, dx, fs, w, B', e1, q1, q2, o2, sl⟩ := fldC f1.sub e o1
    exact ⟨a, dx, fs, w, e1, q1, q2, k w S1 H1 B' f1 o2 (r1.sub sl)⟩
  | .ccon _ _ i, S, H, σ, env, As, Q, s, k => KE.int k (Fut.refl s.sub)
  | .isC c a, S, H, σ, env, As, Q, s, k => by
    simp only [evE] at k
    refine corE E a s (k.bind (Same.refl _) fun x _ k => ?_)
    intro v S1 H1 B1 f1 o1 r1
    obtain ⟨d, e, k⟩ := k.of
    have fin : ∀ t, (∀ f c ks ds, x ≠ .obj f c ks ds) → (∀ f ks ds, x ≠ .dit f ks ds) → (∀ ns, x ≠ .scr ns) → x ≠ .xcp → tyName x = t → t ∈ (["NoneType", "bool", "int", "str", "list", "tuple", "dict"] : List String) → (Φ.sub c c).map (fun _ => D.bl false) = some d → rIsi K.k.K [v, .ref (He.ga K c)] H1 Q := fun t n1 n2 n3 n4 et ht e => by
      obtain ⟨b, eb, rfl⟩ := Option.map_eq_some_iff.mp e
      exact ⟨v, _, _, _, false, rfl, .own _, tyC o1 f1.sub n1 n2 n3 n4, by rw [et]; exact fk.isb c (by rw [eb]; rfl) t ht, KE.bl k f1⟩
    cases x with
    | obj f c' ks ds =>
      obtain ⟨b, eb, rfl⟩ := Option.map_eq_some_iff.mp e
      obtain ⟨ic, kt⟩ := fk.isc c' c b eb
      obtain ⟨a, dx, vs, B', rfl, q, _, _, _⟩ := Own.objR f1.sub o1
      exact ⟨_, _, _, _, b, rfl, .own _, .base (.ins q ic.cl ic.ha ic.hn ic.htk ic.hm), kt, KE.bl k f1⟩
    | xcp => cases e
    | dit _ _ _ => cases e
    | scr _ => cases e
    | non => exact fin "NoneType" (fun _ _ _ _ z => nomatch z) (fun _ _ _ z => nomatch z) (fun _ z => nomatch z) (fun z => nomatch z) rfl (by decide) e
    | bl _ => exact fin "bool" (fun _ _ _ _ z => nomatch z) (fun _ _ _ z => nomatch z) (fun _ z => nomatch z) (fun z => nomatch z) rfl (by decide) e
    | int _ => exact fin "int" (fun _ _ _ _ z => nomatch z) (fun _ _ _ z => nomatch z) (fun _ z => nomatch z) (fun z => nomatch z) rfl (by decide) e
    | str _ => exact fin "str" (fun _ _ _ _ z => nomatch z) (fun _ _ _ z => nomatch z) (fun _ z => nomatch z) (fun z => nomatch z) rfl (by decide) e
    | tup _ => exact fin "tuple" (fun _ _ _ _ z => nomatch z) (fun _ _ _ z => nomatch z) (fun _ z => nomatch z) (fun z => nomatch z) rfl (by decide) e
    | lst _ _ => exact fin "list" (fun _ _ _ _ z => nomatch z) (fun _ _ _ z => nomatch z) (fun _ z => nomatch z) (fun z => nomatch z) rfl (by decide) e
    | dic _ _ _ => exact fin "dict" (fun _ _ _ _ z => nomatch z) (fun _ _ _ z => nomatch z) (fun _ z => nomatch z) (fun z => nomatch z) rfl (by decide) e
  | .make c f es, S, H, σ, env, As, Q, s, k => by
    simp only [evE] at k
    refine corA E es s (k.bind (Same.refl _) fun ds _ k => ?_)
    intro vs S1 H1 B1 f1 o1 r1
    exact makeC f1 o1 r1 k
  | .prop c n f a, S, H, σ, env, As, Q, s, k => by
    simp only [evE] at k
    refine corE E a s (k.bind (Same.refl _) fun x _ k => ?_)
    intro v S1 H1 B1 f1 o1 r1
    by_cases hx : isObj c x = true
    · rw [if_pos hx] at k
      obtain ⟨fl, ks, ds, rfl⟩ := isObj_inv hx
      obtain ⟨a, dx, vs, B', rfl, q, _, _, _⟩ := Own.objR f1.sub o1
      cases hc : callD (Φ f) [.obj fl c ks ds] with
      | st => rw [hc] at k; exact k.elim
      | ex x => rw [hc] at k; exact k.elim
      | ok d =>
        rw [hc] at k
        refine ⟨a, dx, _, rfl, q, callC (S0 := S) (H0 := H) f1 (Owns.one o1) r1 ?_⟩
        rw [hc]
        exact k
    · rw [if_neg hx] at k; exact k.elim
  | .meth c n f a es, S, H, σ, env, As, Q, s, k => by
    simp only [evE] at k
    refine corE E a s (k.bind (Same.refl _) fun x _ k => ?_)
    intro v S1 H1 B1 f1 o1 r1
    by_cases hx : isObjN c n x = true
    · rw [if_pos hx] at k
      obtain ⟨fl, ks, ds, rfl, hn⟩ := isObjN_inv hx
      obtain ⟨a, dx, vs, B', rfl, q, _, _, _⟩ := Own.objR f1.sub o1
      refine ⟨a, dx, _, rfl, q, zip_none hn, corA E es (s.fut f1) (k.bind f1.hp fun ds' _ k => ?_)⟩
      intro vs2 S2 H2 B2 f2 o2 r2
      have o3 : Owns K S2 H2 (D.obj fl c ks ds :: ds') (V.ref a :: vs2) (B1 ++ B2) := ⟨_, vs2, B1, B2, rfl, rfl, o1.fut f2, o2⟩
      exact callC (f1.trans f2) o3 (Fresh.app f2 f1.hp r1 (Own.there _ _ _ o1) r2) k
    · rw [if_neg hx] at k; exact k.elim
  | .smeth c n f es, S, H, σ, env, As, Q, s, k => by
    simp only [evE] at k
    refine corA E es s (k.bind (Same.refl _) fun ds _ k => ?_)
    intro vs S1 H1 B1 f1 o1 r1
    exact callC f1 o1 r1 k
  | .inO n c f a b, S, H, σ, env, As, Q, s, k => by
    simp only [evE] at k
    refine corE E a s (k.bind (Same.refl _) fun x _ k => ?_)
    intro v S1 H1 B1 f1 o1 r1
    refine corE E b (s.fut f1) (k.bind f1.hp fun y _ k => ?_)
    intro u S2 H2 B2 f2 o2 r2
    by_cases hy : isObj c y = true
    · rw [if_pos hy] at k
      have o3 : Owns K S2 H2 [y, x] [u, v] (B2 ++ (B1 ++ [])) := ⟨u, [v], B2, _, rfl, rfl, o2, v, [], B1, [], rfl, rfl, o1.fut f2, rfl, rfl⟩
      have sp := askC (f1.trans f2) o3 (fresh2 (Fresh.app f2 f1.hp r1 (Own.there _ _ _ o1) r2)) k
      obtain ⟨fl, ks, ds, rfl⟩ := isObj_inv hy
      obtain ⟨a, dx, vs, B', rfl, q, _, _, _⟩ := Own.objR f2.sub o2
      exact ⟨a, dx, _, rfl, q, sp⟩
    · rw [if_neg hy] at k; exact k.elim
  | .eqO n c f a b, S, H, σ, env, As, Q, s, k => by
    simp only [evE] at k
    refine corE E a s (k.bind (Same.refl _) fun x _ k => ?_)
    intro v S1 H1 B1 f1 o1 r1
    refine corE E b (s.fut f1) (k.bind f1.hp fun y _ k => ?_)
    intro u S2 H2 B2 f2 o2 r2
    by_cases hy : (isObj c x && (if n = true then isObj c y else isObjT c y)) = true
    · rw [if_pos hy] at k
      rw [Bool.and_eq_true] at hy
      have o3 : Owns K S2 H2 [x, y] [v, u] (B1 ++ (B2 ++ [])) := ⟨v, [u], B1, _, rfl, rfl, o1.fut f2, u, [], B2, [], rfl, rfl, o2, rfl, rfl⟩
      have sp := askC (n := n) (f1.trans f2) o3 (by rw [List.append_nil]; exact Fresh.app f2 f1.hp r1 (Own.there _ _ _ o1) r2) k
      obtain ⟨fl, ks, ds, rfl⟩ := isObj_inv hy.1
      obtain ⟨a, dx, vs, B', rfl, q, _, _, _⟩ := Own.objR (f1.trans f2).sub (o1.fut f2)
      refine ⟨a, dx, _, rfl, q, ?_, ?_⟩
      · have hy2 := hy.2
        cases n with
        | true =>
          obtain ⟨fl2, ks2, ds2, rfl⟩ := isObj_inv (c := c) (by simpa using hy2)
          obtain ⟨a2, dx2, vs2, B2', e2, q2, _, _, _⟩ := Own.objR f2.sub o2
          exact .inl ⟨a2, dx2, _, e2, q2⟩
        | false =>
          simp only [Bool.false_eq_true, if_false] at hy2
          cases y <;> simp [isObjT] at hy2
          · obtain ⟨a2, vs2, e2, q2, _⟩ := Own.seqT f2.sub o2
            exact .inr ⟨rfl, a2, vs2, e2, .inl (.inl q2)⟩
          · subst hy2
            obtain ⟨a2, dx2, vs2, B2', e2, q2, _, _, _⟩ := Own.objR f2.sub o2
            exact .inl ⟨a2, dx2, _, e2, q2⟩
      · simpa using sp
    · rw [if_neg hy] at k; exact k.elim
  | .inR n a lo hi, S, H, σ, env, As, Q, s, k => by
    simp only [evE] at k
    refine corE E a s (k.bind (Same.refl _) fun x _ k => ?_)
    intro v S1 H1 B1 f1 o1 r1
    refine corO E lo (s.fut f1) (k.bind f1.hp fun l _ k => ?_)
    intro S2 H2 f2
    refine corE E hi ((s.fut f1).fut f2) (k.bind (f1.hp.trans f2.hp) fun y _ k => ?_)
    intro u S3 H3 B3 f3 o3 r3
    obtain ⟨i, e1, k⟩ := k.ofBind
    obtain ⟨j, e2, k⟩ := k.ofBind
    obtain rfl : x = .int i := by cases x <;> cases e1 <;> rfl
    obtain rfl : y = .int j := by cases y <;> cases e2 <;> rfl
    refine ⟨j, o3.1, fun p n => ⟨i, p, l.getD 0, j, o1.1, rfl, upd_same, ?_⟩⟩
    exact KE.bl k (((f1.trans f2).trans f3).upd n)
  | .isX c i, S, H, σ, env, As, Q, s, k => by
    simp only [evE] at k
    cases e : get env i with
    | st => rw [e] at k; exact k.elim
    | ex x => unfold get at e; split at e <;> cases e
    | ok d =>
      rw [e] at k
      obtain ⟨v, h1, h2⟩ := s.val i d (get_some e)
      cases d <;> try exact k.elim
      change Kont XR (E σ) H ((R.of Φ.ξ).bind _) _ at k
      obtain ⟨x, ex, k⟩ := k.ofBind
      obtain ⟨b, eb, k⟩ := k.ofBind
      split at k
      · exact k.elim
      rename_i nc
      obtain ⟨rfl, _⟩ := h2
      have hd := s.hx
      rw [hξ] at ex
      obtain ⟨c1, c2⟩ := hd x ex
      obtain ⟨_, xc, kt⟩ := fk.exc x.c c b eb
      refine ⟨_, h1, He.ga K.k.K x.c, b, rfl, c1, xc, c2.imp (·.2) fun ⟨dd, vs, e1, e2, e3, e4⟩ => ⟨dd, _, e1, s.sub _ _ e2, zip_none (by simpa [memK] using nc)⟩, kt, KE.bl k (Fut.refl s.sub)⟩
  | .xfld c n i, S, H, σ, env, As, Q, s, k => by
    simp only [evE] at k
    cases e : get env i with
    | st => rw [e] at k; exact k.elim
    | ex x => unfold get at e; split at e <;> cases e
    | ok d =>
      rw [e] at k
      obtain ⟨v, h1, h2⟩ := s.val i d (get_some e)
      cases d <;> try exact k.elim
      change Kont XR (E σ) H ((R.of Φ.ξ).bind _) _ at k
      obtain ⟨x, ex, k⟩ := k.ofBind
      split at k
      rotate_left
      · exact k.elim
      rename_i hc
      obtain ⟨d, el, k⟩ := k.of
      obtain ⟨rfl, _⟩ := h2
      have hd := s.hx
      rw [hξ] at ex
      obtain ⟨c1, c2⟩ := hd x ex
      rcases c2 with ⟨c2, _⟩ | ⟨dd, vs, e1, e2, e3, e4⟩
      · rw [c2] at el; cases hds : x.ds <;> rw [hds] at el <;> cases el
      · obtain ⟨w, C1, C2, C3, q1, q2, q3⟩ := zip_lookup (flats_own (K := K.k) (S := S) (H := H) e3) el
        have : C2 = [] := by
          have := q2.symm
          simp at this
          exact this.2.1
        subst this
        exact ⟨_, h1, rfl, by rw [c1, hc], dd, _, w, e1, s.sub _ _ e2, q1, k w S H [] (Fut.refl s.sub) q3 .nil⟩
theorem corA (E : SX) : ∀ (cs : Cs) {S H : Hp} {σ : St} {env : Env} {As : Nat → List Addr} {Q : List V → Hp → Prop}, Sta K S H σ env As → Kont XR (E σ) H (evEs Φ cs env) (fun ds => KEs K S H ds Q) → tA K XR Φ.fd E cs σ H Q
  | .nil, S, H, σ, env, As, Q, s, k => k [] S H [] (Fut.refl s.sub) ⟨rfl, rfl⟩ .nil
  | .cons c cs, S, H, σ, env, As, Q, s, k => by
    simp only [evEs] at k
    refine corE E c s (k.bind (Same.refl _) fun x _ k => ?_)
    intro v S1 H1 B1 f1 o1 r1
    refine corA E cs (s.fut f1) (k.bind f1.hp fun ds _ k => ?_)
    intro vs S2 H2 B2 f2 o2 r2
    exact k (v :: vs) S2 H2 (B1 ++ B2) (f1.trans f2) ⟨v, vs, B1, B2, rfl, rfl, o1.fut f2, o2⟩ (Fresh.app f2 f1.hp r1 (Own.there _ _ _ o1) r2)
theorem corO (E : SX) : ∀ (c : Co) {S H : Hp} {σ : St} {env : Env} {As : Nat → List Addr} {Q : Option Int → Hp → Prop}, Sta K S H σ env As → Kont XR (E σ) H (evO Φ c env) (fun d => ∀ S' H', Fut S H S' H' → Q d H') → tO K XR Φ.fd E c σ H Q
  | .none, S, H, σ, env, As, Q, s, k => k S H (Fut.refl s.sub)
  | .some c, S, H, σ, env, As, Q, s, k => by
    simp only [evO] at k
    refine corE E c s (k.bind (Same.refl _) fun x _ k => ?_)
    intro v S1 H1 B1 f1 o1 r1
    obtain ⟨i, e, k⟩ := k.ofBind
    cases x <;> cases e
    exact ⟨_, o1.1, k S1 H1 f1⟩
theorem corTo (E : SX) : ∀ (c : To) {S H : Hp} {σ : St} {env : Env} {As : Nat → List Addr} {Q : Bool → Hp → Prop}, Sta K S H σ env As → Kont XR (E σ) H (evTo Φ c env) (fun b => KB S H b Q) → tTo K XR Φ.fd E c σ H Q
  | .none, S, H, σ, env, As, Q, s, k => k S H (Fut.refl s.sub)
  | .some c, S, H, σ, env, As, Q, s, k => corT E c s k
theorem corT (E : SX) : ∀ (c : T) {S H : Hp} {σ : St} {env : Env} {As : Nat → List Addr} {Q : Bool → Hp → Prop}, Sta K S H σ env As → Kont XR (E σ) H (evT Φ c env) (fun b => KB S H b Q) → tT K XR Φ.fd E c σ H Q
  | .v c, S, H, σ, env, As, Q, s, k => by
    simp only [evT] at k
    refine corE E c s (k.bind (Same.refl _) fun x _ k => ?_)
    intro v S1 H1 B1 f1 o1 r1
    obtain ⟨b, e, k⟩ := k.of
    exact ⟨b, truC f1.sub e o1, k S1 H1 f1⟩
  | .b c, S, H, σ, env, As, Q, s, k => by
    simp only [evT] at k
    refine corE E c s (k.bind (Same.refl _) fun x _ k => ?_)
    intro v S1 H1 B1 f1 o1 r1
    cases x <;> first | exact k.elim | skip
    exact ⟨_, o1.1, k S1 H1 f1⟩
  | .not t, S, H, σ, env, As, Q, s, k => by
    simp only [evT] at k
    exact corT E t s (k.bind (Same.refl _) fun b _ k => fun S1 H1 f1 => k S1 H1 f1)
  | .and ts, S, H, σ, env, As, Q, s, k => corTA E ts s (by simpa only [evT] using k)
  | .or ts, S, H, σ, env, As, Q, s, k => corTO E ts s (by simpa only [evT] using k)
theorem corTA (E : SX) : ∀ (ts : Ts) {S H : Hp} {σ : St} {env : Env} {As : Nat → List Addr} {Q : Bool → Hp → Prop}, Sta K S H σ env As → Kont XR (E σ) H (evTA Φ ts env) (fun b => KB S H b Q) → tTA K XR Φ.fd E ts σ H Q
  | .nil, S, H, σ, env, As, Q, s, k => k S H (Fut.refl s.sub)
  | .cons t ts, S, H, σ, env, As, Q, s, k => by
    simp only [evTA] at k
    refine corT E t s (k.bind (Same.refl _) fun b _ k => fun S1 H1 f1 => ?_)
    cases b with
    | true => exact iff_tt (corTA E ts (s.fut f1) (Kont.imp k f1.hp fun d _ k => k.fut f1))
    | false => exact iff_ff (k S1 H1 f1)
theorem corTO (E : SX) : ∀ (ts : Ts) {S H : Hp} {σ : St} {env : Env} {As : Nat → List Addr} {Q : Bool → Hp → Prop}, Sta K S H σ env As → Kont XR (E σ) H (evTO Φ ts env) (fun b => KB S H b Q) → tTO K XR Φ.fd E ts σ H Q
  | .nil, S, H, σ, env, As, Q, s, k => k S H (Fut.refl s.sub)
  | .cons t ts, S, H, σ, env, As, Q, s, k => by
    simp only [evTO] at k
    refine corT E t s (k.bind (Same.refl _) fun b _ k => fun S1 H1 f1 => ?_)
    cases b with
    | true => exact iff_tt (k S1 H1 f1)
    | false => exact iff_ff (corTO E ts (s.fut f1) (Kont.imp k f1.hp fun d _ k => k.fut f1))
theorem corAnds (E : SX) : ∀ (cs : Cs) {S H : Hp} {σ : St} {env : Env} {As : Nat → List Addr} {Q : VK}, Sta K S H σ env As → Kont XR (E σ) H (evAnd Φ cs env) (fun d => KE K S H d Q) → tAnds K XR Φ.fd E cs σ H Q
  | .nil, S, H, σ, env, As, Q, s, k => KE.bl k (Fut.refl s.sub)
  | .cons c cs, S, H, σ, env, As, Q, s, k => by
    simp only [evAnd] at k
    refine corE E c s (k.bind (Same.refl _) fun x _ k => ?_)
    intro v S1 H1 B1 f1 o1 r1
    obtain ⟨b, rfl⟩ : ∃ b, x = .bl b := by
      cases x <;> first | exact ⟨_, rfl⟩ | exact k.elim
    refine ⟨b, o1.1, ?_⟩
    cases b with
    | true => exact iff_tt (corAnds E cs (s.fut f1) (Kont.imp k f1.hp fun d _ k => k.fut f1))
    | false => exact iff_ff (KE.bl k f1)
theorem corOrs (E : SX) : ∀ (cs : Cs) {S H : Hp} {σ : St} {env : Env} {As : Nat → List Addr} {Q : VK}, Sta K S H σ env As → Kont XR (E σ) H (evOr Φ cs env) (fun d => KE K S H d Q) → tOrs K XR Φ.fd E cs σ H Q
  | .nil, S, H, σ, env, As, Q, s, k => KE.bl k (Fut.refl s.sub)
  | .cons c cs, S, H, σ, env, As, Q, s, k => by
    simp only [evOr] at k
    refine corE E c s (k.bind (Same.refl _) fun x _ k => ?_)
    intro v S1 H1 B1 f1 o1 r1
    obtain ⟨b, rfl⟩ : ∃ b, x = .bl b := by
      cases x <;> first | exact ⟨_, rfl⟩ | exact k.elim
    refine ⟨b, o1.1, ?_⟩
    cases b with
    | true => exact iff_tt (KE.bl k f1)
    | false => exact iff_ff (corOrs E cs (s.fut f1) (Kont.imp k f1.hp fun d _ k => k.fut f1))
theorem corI (E : SX) : ∀ (c : EV.It) (lv : Bool) {S H : Hp} {σ : St} {env : Env} {As : Nat → List Addr} {R : L2.It → Hp → Prop}, Sta K S H σ env As → Kont XR (E σ) H (evIt Φ c lv env) (fun ds => KI K lv S H ds R) → tI K XR Φ.fd E c σ H R
  | .r1 a, lv, S, H, σ, env, As, R, s, k => by
    simp only [evIt] at k
    refine corE E a s (k.bind (Same.refl _) fun x _ k => ?_)
    intro v S1 H1 B1 f1 o1 r1
    obtain ⟨i, e, k2⟩ := k.ofBind
    obtain rfl : x = .int i := by cases x <;> cases e <;> rfl
    split at k2
    · rename_i h
      have h := rngOk_iff.mp h
      exact ⟨i, by rw [o1.1], h.1, h.2, k2 _ S1 H1 f1 itRng (.inr (isZs_ints _ _))⟩
    · exact k2.elim
  | .r2 a b, lv, S, H, σ, env, As, R, s, k => by
    simp only [evIt] at k
    refine corE E a s (k.bind (Same.refl _) fun x _ k => ?_)
    intro v S1 H1 B1 f1 o1 r1
    obtain ⟨i, e, k2⟩ := k.ofBind
    obtain rfl : x = .int i := by cases x <;> cases e <;> rfl
    refine corE E b (s.fut f1) (k2.bind f1.hp fun y _ k3 => ?_)
    intro u S2 H2 B2 f2 o2 r2
    obtain ⟨j, e, k4⟩ := k3.ofBind
    obtain rfl : y = .int j := by cases y <;> cases e <;> rfl
    split at k4
    · rename_i h
      rw [Bool.and_eq_true] at h
      have h1 := rngOk_iff.mp h.1
      have h2 := rngOk_iff.mp h.2
      exact ⟨i, j, by rw [o1.1, o2.1], ⟨h1.1, h1.2, h2.1, h2.2⟩, k4 _ S2 H2 (f1.trans f2) itRng (.inr (isZs_ints _ _))⟩
    · exact k4.elim
  | .seq c, lv, S, H, σ, env, As, R, s, k => by
    simp only [evIt] at k
    refine corE E c s (k.bind (Same.refl _) fun x _ k => ?_)
    intro v S1 H1 B1 f1 o1 r1
    obtain ⟨ds, e, k⟩ := k.of
    exact seqC e f1 o1 r1 k
  | .enum c, lv, S, H, σ, env, As, R, s, k => by
    simp only [evIt] at k
    refine corE E c s (k.bind (Same.refl _) fun x _ k => ?_)
    intro v S1 H1 B1 f1 o1 r1
    obtain ⟨ds, e, k⟩ := k.ofBind
    split at k
    rotate_left
    · exact k.elim
    rename_i zd
    exact enumC e zd f1 o1 r1 k
end
end
end EV
namespace EV
open PySem L2
/-! ### statements as readings -/
def rPut : TSet := fun o i v H Q => rSetL o i v H Q ∨ ∃ a H4, o = .ref a ∧ DPut H a i v H4 ∧ Q H4
section
variable (K : Kx) (XR : PySem.W.Frag) (Φ : Nat → FD)
def tP (i : Nat) : Cs → TE
  | .nil => tVar i
  | .cons k ks => tOp (rIxA K) (tP i ks) (tE K XR Φ E0' k)
/-- self.n = e, self an instance of the class at C -/
def sFldC (C : Addr) (n : Str) (ta tv : TE) : TS := fun D σ H => tv σ H fun y H1 => ta σ H1 fun x H2 => ∃ a dx fs, x = .ref a ∧ H2 a = some (.ins C dx fs) ∧ fs.length < 1000 ∧ D.nx σ (upd H2 a (.ins C dx (putF n y fs)))
def tB (E : SX) : TB → TS
  | .nil => tNext
  | .ret e => tRet (tE K XR Φ E e)
  | .expr e b => tSeq (tDrop (tE K XR Φ E e)) (tB E b)
  | .ife t a b => tSeq (tIfS (tT K XR Φ E t) (tB E a) tNext) (tB E b)
end
mutual
def tS : Kx → PySem.W.Frag → (Nat → FD) → SX → S → TS
  | K, XR, Φ, E, .asg t e => tAsg (tE K XR Φ E e) (gT K t)
  | K, XR, Φ, E, .mvs i j => tAsg (tVar j) (gName i)
  | K, XR, Φ, E, .aug i n e => tAug i (tE K XR Φ E e) (ipI fun a b => if n then a - b else a + b)
  | K, XR, Φ, E, .app i path e => tDrop (tBM K "list" rAppend (tP K XR Φ i path) (tCons (tE K XR Φ E0' e) tNil))
  | K, XR, Φ, E, .put i path k e => tAsg (tE K XR Φ E e) (gSub (tP K XR Φ i path) (tE K XR Φ E0' k) rPut)
  | K, XR, Φ, E, .augp i path k n e => tAugS (tP K XR Φ i path) (tE K XR Φ E0' k) (tE K XR Φ E0' e) (fun o i H Q => rIxA K o i H Q) (ipI fun a b => if n then a - b else a + b) rPut
  | K, XR, Φ, E, .expr e => tDrop (tE K XR Φ E e)
  | K, XR, Φ, E, .ife t a b => tIfS (tT K XR Φ E t) (tSs K XR Φ E a) (tSs K XR Φ E b)
  | K, XR, Φ, E, .whl _ t b => tWhile (tT K XR Φ E t) (tSs K XR Φ E b)
  | K, XR, Φ, E, .fr it tg b => tFor (tI K XR Φ E it) (gT K tg) (tSs K XR Φ E b)
  | K, XR, Φ, E, .ret e => tRet (tE K XR Φ E e)
  | K, XR, Φ, E, .retn => tRetN
  | K, XR, Φ, E, .retmv i => tRet (tVar i)
  | K, XR, Φ, E, .brk => tBreak | K, XR, Φ, E, .cont => tCont | K, XR, Φ, E, .pass => tNext
  | K, XR, Φ, E, .frz _ => tNext
  | K, XR, Φ, E, .apop i j k => tDrop (tBM K "list" rAppend (tVar i) (tCons (tBM K "list" rPopAt (tVar j) (tCons (tE K XR Φ E0' k) tNil)) tNil))
  | K, XR, Φ, E, .each i g e => tFor (iSeq K (tVar i)) (gName g) (tSeq (tDrop (tBM K "list" rAppend (tVar g) (tCons (tE K XR Φ E0' e) tNil))) tNext)
  | K, XR, Φ, E, .sfld i c n e => sFldC (He.ga K c) n (tVar i) (tE K XR Φ E e)
  | K, XR, Φ, E, .raise c f es => fun _ σ H => tMkO (He.ga K c) (spX K c (Φ f).n (Φ f).sem) [] (tA K XR Φ E es) σ H fun cls d H' => E σ cls d H'
  | K, XR, Φ, E, .rev i => tDrop (tBM0 K "list" rReverse (tVar i))
  | K, XR, Φ, E, .tryx b i c h => fun Dn σ H => tB K XR Φ (WE (wAs K (clsU K c) i (fun a cls d => tSs ⟨K.K, ⟨a, cls, d⟩⟩ XR Φ E0' h) (fun cls d σ H => E σ cls d H) Dn)) b Dn σ H
def tSs : Kx → PySem.W.Frag → (Nat → FD) → SX → Ss → TS
  | K, XR, Φ, E, .nil => tNext
  | K, XR, Φ, E, .cons s ss => tSeq (tS K XR Φ E s) (tSs K XR Φ E ss)
end
variable {K : Kx} {XR : PySem.W.Frag} {Φ : Tab} {S S' H H' S0 H0 S1 H1 : Hp} {σ : St} {env env' : Env} {As : Nat → List Addr}
/-! ### a held thing changed inside -/
theorem Owns.split : ∀ (ds : List D) (vs : List V) (B : List Addr) (j : Nat) (d : D), Owns K S H ds vs B → ds[j]? = some d →
    ∃ v B1 B2 B3, vs[j]? = some v ∧ B = B1 ++ B2 ++ B3 ∧ Own K S H d v B2 ∧ ∀ S' H' d' B', Same S S' → cleans ds = true → (∀ p ∈ B1 ++ B3, H' p = H p) → Own K S' H' d' v B' → Owns K S' H' (ds.set j d') vs (B1 ++ B' ++ B3)
  | [], vs, B, j, d, h, e => by simp at e
  | d0 :: ds, vs, B, 0, d, h, e => by
    obtain ⟨v, vs', B1, B2, rfl, rfl, r, rs⟩ := h
    simp at e
    subst e
    refine ⟨v, [], B1, B2, rfl, by simp, r, fun S' H' d' B' s c k o => ?_⟩
    simp only [cleans, Bool.and_eq_true] at c
    exact ⟨v, vs', B', B2, rfl, by simp, o, Owns.keep s ds vs' B2 (.inl c.2) (fun p hp => k p (by simp [hp])) rs⟩
  | d0 :: ds, vs, B, j + 1, d, h, e => by
    obtain ⟨v, vs', B1, B2, rfl, rfl, r, rs⟩ := h
    obtain ⟨u, C1, C2, C3, q1, rfl, q3, q4⟩ := Owns.split ds vs' B2 j d rs (by simpa using e)
    refine ⟨u, B1 ++ C1, C2, C3, by simpa using q1, by simp, q3, fun S' H' d' B' s c k o => ?_⟩
    simp only [cleans, Bool.and_eq_true] at c
    exact ⟨v, vs', B1, C1 ++ B' ++ C3, rfl, by simp, Own.keep s d0 v B1 (.inl c.1) (fun p hp => k p (by simp [hp])) r, q4 S' H' d' B' s c.2 (fun p hp => k p (by simp at hp ⊢; rcases hp with hp | hp <;> simp [hp])) o⟩
theorem lookK_ix {κ α : Type} [DecidableEq κ] : ∀ {ks : List κ} {ds : List α} {q : κ} {d : α}, ks.Nodup → lookK ks ds q = some d → ∃ j, ks[j]? = some q ∧ ds[j]? = some d ∧ ∀ x, setL q x ks ds = (ds.take ks.length).set j x
  | k :: ks, d0 :: ds, q, d, nd, e => by
    obtain ⟨h1, h2⟩ := List.nodup_cons.mp nd
    simp only [lookK] at e
    split at e
    · rename_i hk
      cases e
      subst hk
      have no : ∀ (ks : List κ) (ds : List α) (x : α), k ∉ ks → setL k x ks ds = ds.take ks.length := fun ks => by
        induction ks with
        | nil => intro ds x _; cases ds <;> rfl
        | cons k0 ks ih =>
          intro ds x h
          cases ds with
          | nil => rfl
          | cons d ds =>
            simp only [List.mem_cons, not_or] at h
            simp [setL, Ne.symm h.1, ih ds x h.2]
      exact ⟨0, rfl, rfl, fun x => by simp [setL, no ks ds x h1]⟩
    · rename_i hk
      obtain ⟨j, q1, q2, q3⟩ := lookK_ix h2 e
      exact ⟨j + 1, by simpa using q1, by simpa using q2, fun x => by simp [setL, hk, q3 x]⟩
  | [], ds, q, d, nd, e => by cases ds <;> cases e
  | k :: ks, [], q, d, nd, e => by cases e
theorem valV_ix {κ : Type} [DecidableEq κ] : ∀ {ks : List κ} {vs : List V} {q : κ} {j : Nat} {v : V}, ks.Nodup → ks[j]? = some q → vs[j]? = some v → valV (ks.zip vs) q = some v
  | k :: ks, v0 :: vs, q, 0, v, nd, e1, e2 => by simp at e1 e2; subst e1 e2; exact valV_pos rfl
  | k :: ks, v0 :: vs, q, j + 1, v, nd, e1, e2 => by
    obtain ⟨h1, h2⟩ := List.nodup_cons.mp nd
    have : ¬ k = q := fun e => h1 (by subst e; exact List.mem_of_getElem? (by simpa using e1))
    rw [List.zip_cons_cons, valV_neg (by exact this)]
    exact valV_ix h2 (by simpa using e1) (by simpa using e2)
  | [], vs, q, j, v, nd, e1, e2 => by simp at e1
  | k :: ks, [], q, j, v, nd, e1, e2 => by simp at e2
/-- a step into a held thing -/
theorem stepC {e0 kv e : D} {u0 y : V} {B0 By : List Addr} (s : Same S H) (c : clean e0 = true) (h : stepO e0 kv = some e) (o0 : Own K S H e0 u0 B0) (oy : Own K S H kv y By) :
    ∃ u C1 C C2, B0 = C1 ++ C ++ C2 ∧ clean e = true ∧ Own K S H e u C ∧ (∀ Q : VK, Q u H → rIxA K u0 y H Q) ∧
      ∀ S' H' e' C', Same S S' → (∀ p ∈ C1 ++ C2, H' p = H p) → Own K S' H' e' u C' → Own K S' H' (putO e0 kv e') u0 (C1 ++ C' ++ C2) := by
  have cl : ∀ (ds : List D) (j : Nat) (d : D), cleans ds = true → ds[j]? = some d → clean d = true := fun ds => by
    induction ds with
    | nil => intro j d _ e; simp at e
    | cons x xs ih =>
      intro j d c e
      simp only [cleans, Bool.and_eq_true] at c
      cases j with
      | zero => simp at e; subst e; exact c.1
      | succ j => exact ih j d c.2 (by simpa using e)
  unfold stepO at h
  split at h
  · rename_i ds i
    obtain ⟨q, vs, B', rfl, rfl, hq, ow⟩ := o0
    have cd : cleans ds = true := by simpa [clean] using c
    have l := Owns.length _ _ _ ow
    unfold L2.atI at h
    cases hj : ixN ds.length i with
    | none => rw [hj] at h; cases h
    | some j =>
      rw [hj] at h
      obtain ⟨u, D1, D2, D3, q1, rfl, q3, q4⟩ := Owns.split ds vs _ j e ow h
      refine ⟨u, q :: D1, D2, D3, by simp, cl ds j e cd h, q3, fun Q k => .inl ⟨q, vs, i, u, rfl, oy.1, .inl (.inl hq), ?_, k⟩, fun S' H' e' C' s' k o' => ?_⟩
      · unfold L2.atI; rw [← l, hj]; exact q1
      · simp only [putO, hj]
        exact ⟨q, vs, D1 ++ C' ++ D3, rfl, by simp, (k q (by simp)).trans hq, q4 S' H' e' C' s' cd (fun p hp => k p (by simp at hp ⊢; rcases hp with hp | hp <;> simp [hp])) o'⟩
  · rename_i ks ds
    obtain ⟨q, k0, hl⟩ := Option.bind_eq_some_iff.mp h
    obtain ⟨a, vs, B', rfl, rfl, ha, kl, ow⟩ := o0
    have cd : cleans ds = true := by simpa [clean] using c
    obtain ⟨j, j1, j2, j3⟩ := lookK_ix kl.2 hl
    obtain ⟨u, D1, D2, D3, q1, rfl, q3, q4⟩ := Owns.split ds vs _ j e ow j2
    have ll := Owns.length _ _ _ ow
    have ey := Own.key k0 oy
    refine ⟨u, a :: D1, D2, D3, by simp, cl ds j e cd j2, q3, fun Q k => .inr (.inr ⟨a, u, rfl, .inl ⟨_, q, .inl ha, ey, (valV_ix kl.2 j1 q1).symm⟩, k⟩), fun S' H' e' C' s' k o' => ?_⟩
    simp only [putO, k0, j3 e']
    rw [List.take_of_length_le (by rw [ll, kl.1]; exact Nat.le_refl _)]
    exact ⟨a, vs, D1 ++ C' ++ D3, rfl, by simp, (k a (by simp)).trans ha, kl, q4 S' H' e' C' s' cd (fun p hp => k p (by simp at hp ⊢; rcases hp with hp | hp <;> simp [hp])) o'⟩
  · rename_i ks ds es
    obtain ⟨q, k0, hl⟩ := Option.bind_eq_some_iff.mp h
    obtain ⟨a, vs, B', rfl, rfl, ha, kl, ow⟩ := o0
    have cd : cleans ds = true := by simpa [clean] using c
    obtain ⟨j, j1, j2, j3⟩ := lookK_ix kl.2 hl
    obtain ⟨u, D1, D2, D3, q1, rfl, q3, q4⟩ := Owns.split ds vs _ j e ow j2
    have ll := Owns.length _ _ _ ow
    obtain ⟨b, us, e2, q2, o2⟩ := Own.seqT s oy
    refine ⟨u, a :: D1, D2, D3, by simp, cl ds j e cd j2, q3, fun Q k => .inr (.inr ⟨a, u, rfl, .inr ⟨_, q, b, .inl ha, e2, by rw [← Owns.keys k0 o2]; exact q2, (valV_ix kl.2 j1 q1).symm⟩, k⟩), fun S' H' e' C' s' k o' => ?_⟩
    simp only [putO, k0, j3 e']
    rw [List.take_of_length_le (by rw [ll, kl.1]; exact Nat.le_refl _)]
    exact ⟨a, vs, D1 ++ C' ++ D3, rfl, by simp, (k a (by simp)).trans ha, kl, q4 S' H' e' C' s' cd (fun p hp => k p (by simp at hp ⊢; rcases hp with hp | hp <;> simp [hp])) o'⟩
  · cases h
/-- at the end of a path: what stands there, and how the whole is made again -/
def PathK (K : Kx) (S H : Hp) (d : D) (v : V) (A : List Addr) (ks : List D) (Q : VK) : Prop := ∃ e, getO d ks = some e ∧ ∀ S' H' u A1 B A2, Fut S H S' H' → A = A1 ++ B ++ A2 → clean e = true → Own K S' H' e u B →
  (∀ S2 H2 e' B', Same S' S2 → (∀ p ∈ A1 ++ A2, H2 p = H' p) → Own K S2 H2 e' u B' → Own K S2 H2 (setO d ks e') v (A1 ++ B' ++ A2)) → Q u H'
section
variable {K : Kz} (fk : FK K.k.K Φ) (hξ : Φ.ξ = K.x)
include fk hξ
theorem pathC {E : XK} {i : Nat} {d : D} {v : V} (s : Sta K S H σ env As) (cd : clean d = true) (hd : env[i]? = some (some d)) (hv : σ[i]? = some (some v)) : ∀ (path : Cs) {Q : VK}, Kont XR E H (evP Φ path env) (fun ks => PathK K S H d v (As i) ks Q) → tP K XR Φ.fd i path σ H Q
  | .nil, Q, k => by
    obtain ⟨e, h1, h2⟩ := k
    cases h1
    obtain ⟨v', hv', o⟩ := s.val i d hd
    rw [hv] at hv'
    cases hv'
    exact ⟨v, hv, h2 S H v [] (As i) [] (Fut.refl s.sub) (by simp) cd o fun S2 H2 e' B' _ _ o' => by simpa [setO] using o'⟩
  | .cons k ks, Q, kk => by
    simp only [evP] at kk
    refine pathC s cd hd hv ks (kk.bind (Same.refl _) fun vs _ kk => ?_)
    cases hk : evE Φ k env with
    | st => rw [hk] at kk; exact kk.elim
    | ex x => rw [hk] at kk; exact kk.elim
    | ok kv =>
      rw [hk] at kk
      obtain ⟨e, h1, h2⟩ := kk
      obtain ⟨e0, g1, g2⟩ := Option.bind_eq_some_iff.mp h1
      refine ⟨e0, g1, fun S' H' u A1 B A2 f hA c o reb => ?_⟩
      refine corE fk hξ E0' k (s.fut f) ?_
      rw [hk]
      intro y S2 H2 By f2 oy ry
      obtain ⟨w, C1, C, C2, rfl, ce, oe, get, reb1⟩ := stepC f2.sub c g2 (o.fut f2) oy
      refine get Q (h2 S2 H2 w (A1 ++ C1) C (C2 ++ A2) (f.trans f2) (by rw [hA]; simp) ce oe fun S3 H3 e' B' s3 k3 o3 => ?_)
      have t : ∀ p ∈ As i, H2 p = H' p := fun p hp => by
        (obtain ⟨_, t, _⟩ := (s.fut f).there i p hp; rw [t, f2.hp _ _ t])
      have r1 := reb1 S3 H3 e' B' s3 (fun p hp => k3 p (by simp at hp ⊢; rcases hp with hp | hp <;> simp [hp])) o3
      have r2 := reb S3 H3 (putO e0 kv e') (C1 ++ B' ++ C2) (f2.st.trans s3) (fun p hp => by
        rw [k3 p (by simp at hp ⊢; rcases hp with hp | hp <;> simp [hp])]
        exact t p (by rw [hA]; simp at hp ⊢; rcases hp with hp | hp <;> simp [hp])) r1
      simpa [setO, g1] using r2
end
end EV
namespace EV
open PySem L2
variable {K : Kz} {XR : PySem.W.Frag} {Φ : Tab} {Se He L S S' H H' S0 H0 S1 H1 : Hp} {σ : St} {env env' : Env} {As : Nat → List Addr} {E : XK}
def AsNew (He : Hp) (As : Nat → List Addr) : Prop := ∀ i, ∀ p ∈ As i, He p = none
/-- an __init__'s first slot is the new instance -/
def Anc (K : Kz) (σ : St) : Prop := ∀ p, K.slf = some p → σ[0]? = some (some (.ref p))
theorem Anc.set {K : Kz} {σ : St} {i : Nat} {x : Option V} (a : Anc K σ) (h : K.slf = none ∨ i ≠ 0) : Anc K (σ.set i x) := fun p e => by
  rcases h with h | h
  · rw [h] at e; cases e
  · rw [List.getElem?_set_ne h]; exact a p e
/-- where a body stands: entered with (Se, He), L is kept shared, now at (S, H) -/
structure At (K : Kz) (Se He L S H : Hp) (σ : St) (env : Env) (As : Nat → List Addr) : Prop where
  anc : Anc K σ
  sta : Sta K S H σ env As
  fut : Fut Se He S H
  low : Same L S
  new : AsNew He As
  cln : ∀ (i : Nat) (d : D), env[i]? = some (some d) → clean d = true
def KN (K : Kz) (Se He L : Hp) (env : Env) (P : St → Hp → Prop) : Prop := ∀ σ S H As, At K Se He L S H σ env As → P σ H
def KO (K : Kz) (Se He L : Hp) (D : Ends) (o : Out) : Prop := match o with
  | .nx e => KN K Se He L e D.nx
  | .rt d => KE K Se He d D.rt
  | .bk e => KN K Se He L e D.bk
  | .ct e => KN K Se He L e D.ct
theorem At.grow (a : At K Se He L S H σ env As) (f : Fut S H S' H') : At K Se He L S' H' σ env As := ⟨a.anc, a.sta.fut f, a.fut.trans f, a.low.trans f.st, a.new, a.cln⟩
/-- a slot is stored: a value that was just made -/
theorem At.store {i : Nat} {d : D} {v : V} {B : List Addr} (a : At K Se He L S H σ env As) (hi : i < env.length) (c : clean d = true) (o : Own K S H d v B) (r : Fresh He S B) (dj : ∀ p ∈ B, ∀ j, j ≠ i → p ∉ As j) (h0 : K.slf = none ∨ i ≠ 0) :
    At K Se He L S H (σ.set i (some v)) (env.set i (some d)) (fun j => if j = i then B else As j) :=
  ⟨a.anc.set h0, a.sta.set hi o r.nd fun p hp => ⟨(r.new p hp).2, dj p hp⟩, a.fut, a.low, fun j p hp => by
    by_cases h : j = i
    · simp only [h, if_true] at hp; exact (r.new p hp).1
    · simp only [h, if_false] at hp; exact a.new j p hp, fun j x e => by
    by_cases h : j = i
    · subst h; rw [List.getElem?_set_self hi] at e; cases e; exact c
    · rw [List.getElem?_set_ne (Ne.symm h)] at e; exact a.cln j x e⟩
/-- fresh things are in no slot -/
theorem fresh_dj (s : Sta K S H σ env As) {B : List Addr} (r : Fresh H S' B) (i : Nat) : ∀ p ∈ B, ∀ j, j ≠ i → p ∉ As j := fun p hp j _ z => by
  have := (r.new p hp).1
  (obtain ⟨_, t, _⟩ := s.there j p z; rw [t] at this; cases this)
theorem get_ok {f : D → R Out} {i : Nat} {P : Out → Prop} (k : Kont XR E H ((get env i).bind f) P) : ∃ d, env[i]? = some (some d) ∧ Kont XR E H (f d) P := by
  cases e : get env i with
  | st => rw [e] at k; exact k.elim
  | ex x => unfold get at e; split at e <;> cases e
  | ok d => rw [e] at k; exact ⟨d, get_some e, k⟩
theorem noEx_k {α β : Type} {r : R α} {f : α → R β} {P : β → Prop} (k : Kont XR E H ((noEx r).bind f) P) : ∃ d, r = .ok d ∧ Kont XR E H (f d) P := by
  cases r with
  | st => exact k.elim
  | ex x => exact k.elim
  | ok d => exact ⟨d, rfl, k⟩
/-- the slot's thing made again behind a change inside -/
theorem At.change {i : Nat} {d : D} {v u : V} {path : List D} {A1 B A2 B' : List Addr} {e' : D} {q : Addr} {o : HO} (a : At K Se He L S H σ env As) (hi : env[i]? = some (some d)) (hv : σ[i]? = some (some v)) (hA : As i = A1 ++ (q :: B) ++ A2)
    (reb : ∀ S2 H2 e' B', Same S S2 → (∀ p ∈ A1 ++ A2, H2 p = H p) → Own K S2 H2 e' u B' → Own K S2 H2 (setO d path e') v (A1 ++ B' ++ A2)) (own : Own K S (upd H q o) e' u (q :: B')) (c : clean (setO d path e') = true)
    (nd : (A1 ++ (q :: B') ++ A2).Nodup) (new : ∀ p ∈ B', p ∉ B → He p = none ∧ S p = none ∧ ∀ j, j ≠ i → p ∉ As j) :
    At K Se He L S (upd H q o) σ (env.set i (some (setO d path e'))) (fun j => if j = i then A1 ++ (q :: B') ++ A2 else As j) := by
  have qi : q ∈ As i := by rw [hA]; simp
  have nq : S q = none := a.sta.out i q qi
  have heq : He q = none := a.new i q qi
  have hil : i < env.length := (List.getElem?_eq_some_iff.mp hi).1
  have sub : Same S (upd H q o) := same_updS a.sta.sub nq
  have nd0 : (A1 ++ (q :: B) ++ A2).Nodup := by rw [← hA]; exact a.sta.nd i
  have qA : q ∉ A1 ++ A2 := by
    simp only [List.append_assoc, List.nodup_append, List.cons_append, List.nodup_cons, List.mem_append, List.mem_cons] at nd0
    simp only [List.mem_append, not_or]
    exact ⟨fun h => nd0.2.2 q h q (.inl rfl) rfl, fun h => nd0.2.1.1 (.inr h)⟩
  have own2 := reb S (upd H q o) e' (q :: B') (Same.refl _) (fun p hp => upd_ne (by rintro rfl; exact qA hp)) own
  have inn : ∀ p ∈ A1 ++ (q :: B') ++ A2, p ∈ As i ∨ (He p = none ∧ S p = none ∧ ∀ j, j ≠ i → p ∉ As j) := fun p hp => by
    simp only [List.mem_append, List.mem_cons] at hp
    rcases hp with (h | rfl | h) | h
    · exact .inl (by rw [hA]; simp [h])
    · exact .inl qi
    · by_cases hb : p ∈ B
      · exact .inl (by rw [hA]; simp [hb])
      · exact .inr (new p h hb)
    · exact .inl (by rw [hA]; simp [h])
  have s2 : Sta K S (upd H q o) σ env (fun j => if j = i then [] else As j) → True := fun _ => trivial
  refine ⟨a.anc, ⟨a.sta.hx, sub, by simp [a.sta.len], fun j d' ej => ?_, fun j ej => ?_, fun j => ?_, fun j k hjk p hp => ?_, fun j p hp => ?_⟩, ⟨fun b u e => ?_, a.fut.st, sub, a.fut.new⟩, a.low, fun j p hp => ?_, fun j x ej => ?_⟩
  · by_cases h : j = i
    · subst h
      rw [List.getElem?_set_self hil] at ej
      cases ej
      exact ⟨v, hv, by simpa using own2⟩
    · rw [List.getElem?_set_ne (Ne.symm h)] at ej
      have c' := a.cln j d' ej
      obtain ⟨v', h1, h2⟩ := a.sta.val j d' ej
      refine ⟨v', h1, ?_⟩
      simp only [h, if_false]
      exact Own.keep (Same.refl _) _ _ _ (.inl c') (fun p hp => upd_ne (by rintro rfl; exact a.sta.dj i j (Ne.symm h) p qi hp)) h2
  · by_cases h : j = i
    · subst h
      exact absurd (List.getElem?_set_self hil) (ej _)
    · simp only [h, if_false]
      exact a.sta.emp j fun d' e' => ej d' (by rw [List.getElem?_set_ne (Ne.symm h)]; exact e')
  · by_cases h : j = i
    · simp only [h, if_true]; exact nd
    · simp only [h, if_false]; exact a.sta.nd j
  · by_cases h : j = i
    · subst h
      simp only [if_true] at hp
      simp only [Ne.symm hjk, if_false]
      rcases inn p hp with z | z
      · exact a.sta.dj j k hjk p z
      · exact z.2.2 k (Ne.symm hjk)
    · simp only [h, if_false] at hp
      by_cases h2 : k = i
      · subst h2
        simp only [if_true]
        intro z
        rcases inn p z with z | z
        · exact a.sta.dj j k hjk p hp z
        · exact z.2.2 j hjk hp
      · simp only [h2, if_false]; exact a.sta.dj j k hjk p hp
  · by_cases h : j = i
    · simp only [h, if_true] at hp
      rcases inn p hp with z | z
      · exact a.sta.out i p z
      · exact z.2.1
    · simp only [h, if_false] at hp; exact a.sta.out j p hp
  · rw [upd_ne (by rintro rfl; rw [heq] at e; cases e)]; exact a.fut.hp b u e
  · by_cases h : j = i
    · simp only [h, if_true] at hp
      rcases inn p hp with z | z
      · exact a.new i p z
      · exact z.1
    · simp only [h, if_false] at hp; exact a.new j p hp
  · by_cases h : j = i
    · subst h
      rw [List.getElem?_set_self hil] at ej
      cases ej
      exact c
    · rw [List.getElem?_set_ne (Ne.symm h)] at ej
      exact a.cln j x ej
theorem cleans_set : ∀ (ds : List D) (j : Nat) (x : D), cleans ds = true → clean x = true → cleans (ds.set j x) = true
  | [], j, x, _, _ => rfl
  | d :: ds, 0, x, c, cx => by simp only [cleans, Bool.and_eq_true] at c; simp [cleans, cx, c.2]
  | d :: ds, j + 1, x, c, cx => by simp only [cleans, Bool.and_eq_true] at c; simp [cleans, c.1, cleans_set ds j x c.2 cx]
theorem cleans_setL {κ : Type} [DecidableEq κ] (q : κ) (x : D) : ∀ (ks : List κ) (ds : List D), cleans ds = true → clean x = true → cleans (setL q x ks ds) = true
  | [], ds, _, _ => by cases ds <;> rfl
  | k :: ks, [], _, _ => rfl
  | k :: ks, d :: ds, c, cx => by
    simp only [cleans, Bool.and_eq_true] at c
    simp only [setL]
    split <;> simp [cleans, cx, c.1, cleans_setL q x ks ds c.2 cx]
theorem cleans_app : ∀ (a b : List D), cleans a = true → cleans b = true → cleans (a ++ b) = true
  | [], b, _, h => h
  | d :: a, b, c, h => by simp only [cleans, Bool.and_eq_true] at c; simp [cleans, c.1, cleans_app a b c.2 h]
theorem clean_putO {e k x : D} (c : clean e = true) (cx : clean x = true) : clean (putO e k x) = true := by
  unfold putO
  split
  · split
    · simp only [clean, Bool.and_eq_true] at c ⊢; exact ⟨c.1, cleans_set _ _ _ c.2 cx⟩
    · exact c
  · split
    · simp only [clean, Bool.and_eq_true] at c ⊢; exact ⟨c.1, cleans_setL _ _ _ _ c.2 cx⟩
    · exact c
  · split
    · simp only [clean, Bool.and_eq_true] at c ⊢; exact ⟨c.1, cleans_setL _ _ _ _ c.2 cx⟩
    · exact c
  · exact c
theorem clean_get : ∀ (ks : List D) {d e : D}, clean d = true → getO d ks = some e → clean e = true
  | [], d, e, c, h => by cases h; exact c
  | k :: ks, d, e, c, h => by
    obtain ⟨e0, h1, h2⟩ := Option.bind_eq_some_iff.mp h
    have c0 := clean_get ks c h1
    have cl : ∀ (ds : List D) (j : Nat) (d : D), cleans ds = true → ds[j]? = some d → clean d = true := fun ds => by
      induction ds with
      | nil => intro j d _ e; simp at e
      | cons x xs ih =>
        intro j d c e
        simp only [cleans, Bool.and_eq_true] at c
        cases j with
        | zero => simp at e; subst e; exact c.1
        | succ j => exact ih j d c.2 (by simpa using e)
    have ck : ∀ {κ : Type} [DecidableEq κ] (ks : List κ) (ds : List D) (q : κ) (d : D), cleans ds = true → lookK ks ds q = some d → clean d = true := fun ks => by
      induction ks with
      | nil => intro ds q d _ h; cases ds <;> cases h
      | cons k ks ih =>
        intro ds q d c h
        cases ds with
        | nil => cases h
        | cons x xs =>
          simp only [cleans, Bool.and_eq_true] at c
          simp only [lookK] at h
          split at h
          · cases h; exact c.1
          · exact ih xs q d c.2 h
    unfold stepO at h2
    split at h2
    · simp only [clean, Bool.and_eq_true] at c0
      unfold L2.atI at h2
      obtain ⟨j, _, h3⟩ := Option.bind_eq_some_iff.mp h2
      exact cl _ j e c0.2 h3
    · simp only [clean, Bool.and_eq_true] at c0
      obtain ⟨q, _, h3⟩ := Option.bind_eq_some_iff.mp h2
      exact ck _ _ q e c0.2 h3
    · simp only [clean, Bool.and_eq_true] at c0
      obtain ⟨q, _, h3⟩ := Option.bind_eq_some_iff.mp h2
      exact ck _ _ q e c0.2 h3
    · cases h2
theorem clean_setO : ∀ (ks : List D) {d x : D}, clean d = true → clean x = true → clean (setO d ks x) = true
  | [], d, x, _, cx => cx
  | k :: ks, d, x, c, cx => by
    simp only [setO]
    split
    · rename_i e h
      exact clean_setO ks c (clean_putO (clean_get ks c h) cx)
    · exact c
end EV
namespace EV
open PySem L2
variable {K : Kz} {XR : PySem.W.Frag} {Φ : Tab} {Se He L L' S S' H H' S0 H0 S1 H1 : Hp} {σ : St} {env env' : Env} {As : Nat → List Addr} {E : XK}
theorem At.lower (a : At K Se He L' S H σ env As) (l : Same L L') : At K Se He L S H σ env As := ⟨a.anc, a.sta, a.fut, l.trans a.low, a.new, a.cln⟩
theorem KN.raise {P : St → Hp → Prop} (k : KN K Se He L env P) (l : Same L L') : KN K Se He L' env P := fun σ S H As a => k σ S H As (a.lower l)
theorem evP_ne : ∀ (path : Cs) (env : Env) (x : Exc), evP Φ path env ≠ .ex x
  | .nil, env, x, h => nomatch h
  | .cons k ks, env, x, h => by
    simp only [evP] at h
    cases e : evP Φ ks env with
    | st => rw [e] at h; cases h
    | ex y => exact evP_ne ks env y e
    | ok vs =>
      rw [e] at h
      cases e2 : evE Φ k env <;> rw [e2] at h <;> cases h
theorem nd_ins {α : Type} {L1 C2 L2 X : List α} (h : (L1 ++ C2 ++ L2).Nodup) (x : X.Nodup) (d : ∀ p ∈ X, p ∉ L1 ++ C2 ++ L2) : (L1 ++ X ++ L2).Nodup := by
  rw [List.append_assoc, List.nodup_append] at h
  obtain ⟨h1, h2, h3⟩ := h
  rw [List.nodup_append] at h2
  obtain ⟨h4, h5, h6⟩ := h2
  rw [List.append_assoc, List.nodup_append]
  refine ⟨h1, List.nodup_append.mpr ⟨x, h5, fun a ha b hb e => d a ha (by subst e; simp [hb])⟩, fun a ha b hb e => ?_⟩
  rcases List.mem_append.mp hb with hb | hb
  · exact d b hb (by subst e; simp [ha])
  · exact h3 a ha b (by simp [hb]) e
/-- a write at the end of a path -/
theorem At.write {i : Nat} {d e' : D} {v : V} {path : List D} {A1 A2 C1 C2 C3 X : List Addr} {q : Addr} {o : HO} {P : St → Hp → Prop} (a : At K Se He L S H σ env As) (hi : env[i]? = some (some d)) (hv : σ[i]? = some (some v))
    (hA : As i = A1 ++ (q :: (C1 ++ C2 ++ C3)) ++ A2) (reb : ∀ S2 H2 e' B', Same S S2 → (∀ p ∈ A1 ++ A2, H2 p = H p) → Own K S2 H2 e' (.ref q) B' → Own K S2 H2 (setO d path e') v (A1 ++ B' ++ A2))
    (own : Own K S (upd H q o) e' (.ref q) (q :: (C1 ++ X ++ C3))) (c : clean e' = true) (x : X.Nodup) (xn : ∀ p ∈ X, He p = none ∧ S p = none ∧ ∀ j, p ∉ As j)
    (k : KN K Se He L (env.set i (some (setO d path e'))) P) : P σ (upd H q o) := by
  have cd := a.cln i d hi
  have nd := a.sta.nd i
  rw [hA] at nd
  refine k _ _ _ _ (a.change hi hv hA reb own (clean_setO path cd c) ?_ fun p hp hb => ?_)
  · have e1 : A1 ++ (q :: (C1 ++ C2 ++ C3)) ++ A2 = (A1 ++ q :: C1) ++ C2 ++ (C3 ++ A2) := by simp
    have e2 : A1 ++ (q :: (C1 ++ X ++ C3)) ++ A2 = (A1 ++ q :: C1) ++ X ++ (C3 ++ A2) := by simp
    rw [e2]
    rw [e1] at nd
    exact nd_ins nd x fun p hp z => (xn p hp).2.2 i (by rw [hA, e1]; exact z)
  · have : p ∈ X := by
      simp only [List.mem_append, not_or] at hp hb
      rcases hp with (h | h) | h
      · exact absurd h hb.1.1
      · exact h
      · exact absurd h hb.2
    obtain ⟨h1, h2, h3⟩ := xn p this
    exact ⟨h1, h2, fun j _ => h3 j⟩
theorem reb_fut {d : D} {v u : V} {path : List D} {A1 B A2 : List Addr} {A : List Addr} (f : Fut S H S' H') (hA : A = A1 ++ B ++ A2) (t : ∀ p ∈ A, Hld H p)
    (reb : ∀ S2 H2 e' B', Same S S2 → (∀ p ∈ A1 ++ A2, H2 p = H p) → Own K S2 H2 e' u B' → Own K S2 H2 (setO d path e') v (A1 ++ B' ++ A2)) :
    ∀ S2 H2 e' B', Same S' S2 → (∀ p ∈ A1 ++ A2, H2 p = H' p) → Own K S2 H2 e' u B' → Own K S2 H2 (setO d path e') v (A1 ++ B' ++ A2) := fun S2 H2 e' B' s k o => by
  refine reb S2 H2 e' B' (f.st.trans s) (fun p hp => ?_) o
  rw [k p hp]
  (obtain ⟨_, t, _⟩ := t p (by rw [hA]; simp at hp ⊢; rcases hp with hp | hp <;> simp [hp]); rw [t, f.hp _ _ t])
/-- to the end of a path -/
theorem At.path (fk : FK K.k.K Φ) (hξ : Φ.ξ = K.x) {i : Nat} {d e : D} {path : Cs} {ks : List D} {Q : VK} (a : At K Se He L S H σ env As) (hi : env[i]? = some (some d)) (hp : evP Φ path env = .ok ks) (he : getO d ks = some e)
    (k : ∀ v u S' H' A1 B A2, σ[i]? = some (some v) → Fut S H S' H' → At K Se He L S' H' σ env As → As i = A1 ++ B ++ A2 → clean e = true → Own K S' H' e u B →
      (∀ S2 H2 e' B', Same S' S2 → (∀ p ∈ A1 ++ A2, H2 p = H' p) → Own K S2 H2 e' u B' → Own K S2 H2 (setO d ks e') v (A1 ++ B' ++ A2)) → Q u H') : tP K XR Φ.fd i path σ H Q := by
  obtain ⟨v, hv, o⟩ := a.sta.val i d hi
  refine pathC fk hξ (E := E0' σ) a.sta (a.cln i d hi) hi hv path ?_
  rw [hp]
  exact ⟨e, he, fun S' H' u A1 B A2 f hA c o reb => k v u S' H' A1 B A2 hv f (a.grow f) hA c o reb⟩
theorem Owns.setV : ∀ (ds : List D) (vs : List V) (B : List Addr) (j : Nat), Owns K S H ds vs B → j < ds.length →
    ∃ B1 B2 B3, B = B1 ++ B2 ++ B3 ∧ ∀ S' H' x xv X, Same S S' → cleans ds = true → (∀ p ∈ B1 ++ B3, H' p = H p) → Own K S' H' x xv X → Owns K S' H' (ds.set j x) (vs.set j xv) (B1 ++ X ++ B3)
  | [], vs, B, j, h, l => by simp at l
  | d0 :: ds, vs, B, 0, h, l => by
    obtain ⟨v, vs', B1, B2, rfl, rfl, r, rs⟩ := h
    refine ⟨[], B1, B2, by simp, fun S' H' x xv X s c k o => ?_⟩
    simp only [cleans, Bool.and_eq_true] at c
    exact ⟨xv, vs', X, B2, rfl, by simp, o, Owns.keep s ds vs' B2 (.inl c.2) (fun p hp => k p (by simp [hp])) rs⟩
  | d0 :: ds, vs, B, j + 1, h, l => by
    obtain ⟨v, vs', B1, B2, rfl, rfl, r, rs⟩ := h
    obtain ⟨C1, C2, C3, rfl, q⟩ := Owns.setV ds vs' B2 j rs (by simpa using l)
    refine ⟨B1 ++ C1, C2, C3, by simp, fun S' H' x xv X s c k o => ?_⟩
    simp only [cleans, Bool.and_eq_true] at c
    exact ⟨v, vs'.set j xv, B1, C1 ++ X ++ C3, rfl, by simp, Own.keep s d0 v B1 (.inl c.1) (fun p hp => k p (by simp [hp])) r, q S' H' x xv X s c.2 (fun p hp => k p (by simp at hp ⊢; rcases hp with hp | hp <;> simp [hp])) o⟩
theorem putK_zip {κ : Type} [DecidableEq κ] {ks : List κ} {vs : List V} {q : κ} {x : V} (l : KL ks vs) : putK (ks.zip vs) q x = (putKs ks q).zip (putDs ks vs q x) ∧ KL (putKs ks q) (putDs ks vs q x) := by
  have any : ∀ (ks : List κ) (vs : List V), ks.length = vs.length → ((ks.zip vs).any fun kv => decide (kv.1 = q)) = decide (q ∈ ks) := fun ks => by
    induction ks with
    | nil => intro vs _; rfl
    | cons k ks ih =>
      intro vs l
      cases vs with
      | nil => cases l
      | cons v vs =>
        rw [List.zip_cons_cons, List.any_cons, ih vs (by simpa using l)]
        by_cases h : k = q
        · simp [h]
        · have h2 : ¬ q = k := fun e => h e.symm
          by_cases h3 : q ∈ ks <;> simp [h, h2, h3]
  have mp : ∀ (ks : List κ) (vs : List V), ((ks.zip vs).map fun kv => if kv.1 = q then (kv.1, x) else kv) = ks.zip (setL q x ks vs) := fun ks => by
    induction ks with
    | nil => intro vs; rfl
    | cons k ks ih =>
      intro vs
      cases vs with
      | nil => rfl
      | cons v vs =>
        rw [List.zip_cons_cons, List.map_cons, ih vs]
        simp only [setL]
        split <;> rfl
  have len : ∀ (ks : List κ) (vs : List V), ks.length = vs.length → ks.length = (setL q x ks vs).length := fun ks => by
    induction ks with
    | nil => intro vs _; cases vs <;> rfl
    | cons k ks ih =>
      intro vs l
      cases vs with
      | nil => cases l
      | cons v vs =>
        simp only [setL]
        split <;> simp [← ih vs (by simpa using l)]
  unfold putK
  rw [any ks vs l.1]
  unfold putKs putDs
  by_cases h : q ∈ ks
  · rw [if_pos (by simpa using h), if_pos h, if_pos h, mp]
    exact ⟨rfl, len ks vs l.1, l.2⟩
  · rw [if_neg (by simpa using h), if_neg h, if_neg h]
    refine ⟨by rw [List.zip_append l.1]; rfl, by simp [l.1], List.nodup_append.mpr ⟨l.2, by simp, fun a ha b hb e => ?_⟩⟩
    simp at hb
    subst e hb
    exact h ha
theorem Owns.putV {κ : Type} [DecidableEq κ] {ks : List κ} {ds : List D} {vs : List V} {B : List Addr} {q : κ} (l : KL ks vs) (o : Owns K S H ds vs B) :
    ∃ B1 B2 B3, B = B1 ++ B2 ++ B3 ∧ ∀ S' H' x xv X, Same S S' → cleans ds = true → (∀ p ∈ B1 ++ B3, H' p = H p) → Own K S' H' x xv X → Owns K S' H' (putDs ks ds q x) (putDs ks vs q xv) (B1 ++ X ++ B3) := by
  have ll := Owns.length _ _ _ o
  by_cases h : q ∈ ks
  · have lk : ∃ d, lookK ks ds q = some d := by
      have : ∀ (ks : List κ) (ds : List D), q ∈ ks → ks.length = ds.length → ∃ d, lookK ks ds q = some d := fun ks => by
        induction ks with
        | nil => intro ds h _; cases h
        | cons k ks ih =>
          intro ds h l
          cases ds with
          | nil => cases l
          | cons d ds =>
            by_cases e : k = q
            · exact ⟨d, by simp [lookK, e]⟩
            · have h' : q ∈ ks := by
                rcases List.mem_cons.mp h with h | h
                · exact absurd h.symm e
                · exact h
              obtain ⟨d', hd⟩ := ih ds h' (by simpa using l)
              exact ⟨d', by simp [lookK, e, hd]⟩
      exact this ks ds h (l.1.trans ll.symm)
    obtain ⟨d, hd⟩ := lk
    obtain ⟨j, j1, j2, j3⟩ := lookK_ix l.2 hd
    have jl : j < ds.length := (List.getElem?_eq_some_iff.mp j2).1
    obtain ⟨B1, B2, B3, e, f⟩ := Owns.setV ds vs B j o jl
    refine ⟨B1, B2, B3, e, fun S' H' x xv X s c k o' => ?_⟩
    have r := f S' H' x xv X s c k o'
    obtain ⟨v0, hv0⟩ : ∃ v0, lookK ks vs q = some v0 := by
      have : ∀ (ks : List κ) (vs : List V), q ∈ ks → ks.length = vs.length → ∃ d, lookK ks vs q = some d := fun ks => by
        induction ks with
        | nil => intro ds h _; cases h
        | cons k ks ih =>
          intro ds h l
          cases ds with
          | nil => cases l
          | cons d ds =>
            by_cases e : k = q
            · exact ⟨d, by simp [lookK, e]⟩
            · have h' : q ∈ ks := by
                rcases List.mem_cons.mp h with h | h
                · exact absurd h.symm e
                · exact h
              obtain ⟨d', hd⟩ := ih ds h' (by simpa using l)
              exact ⟨d', by simp [lookK, e, hd]⟩
      exact this ks vs h l.1
    obtain ⟨j', k1, k2, k3⟩ := lookK_ix l.2 hv0
    have ej : j' = j := by
      obtain ⟨a1, a2⟩ := List.getElem?_eq_some_iff.mp j1
      obtain ⟨b1, b2⟩ := List.getElem?_eq_some_iff.mp k1
      exact ((List.getElem_inj l.2).mp (a2.trans b2.symm)).symm
    subst ej
    unfold putDs
    rw [if_pos h, if_pos h, j3 x, k3 xv, List.take_of_length_le (by rw [ll, l.1]; exact Nat.le_refl _), List.take_of_length_le (by rw [l.1]; exact Nat.le_refl _)]
    exact r
  · refine ⟨B, [], [], by simp, fun S' H' x xv X s c k o' => ?_⟩
    unfold putDs
    rw [if_neg h, if_neg h]
    rw [List.append_nil]
    exact Owns.append _ _ _ _ _ _ (Owns.keep s ds vs B (.inl c) (fun p hp => k p (by simp [hp])) o) (Owns.one o')
theorem cleans_putDs {κ : Type} [DecidableEq κ] {ks : List κ} {ds : List D} {q : κ} {x : D} (c : cleans ds = true) (cx : clean x = true) : cleans (putDs ks ds q x) = true := by
  unfold putDs
  split
  · exact cleans_setL _ _ _ _ c cx
  · exact cleans_app _ _ c (by simp [cleans, cx])
/-- e[k] = x, where e is held -/
theorem storeC {e kv x e' : D} {u y xv : V} {B By X : List Addr} (s : Same S H) (c : clean e = true) (cx : clean x = true) (h : storeO e kv x = some e') (o0 : Own K S H e u B) (oy : Own K S H kv y By) (ox : Own K S H x xv X)
    (nq : ∀ q ∈ B, q ∉ X) (nd : B.Nodup) : ∃ q o C1 C2 C3, u = .ref q ∧ B = q :: (C1 ++ C2 ++ C3) ∧ clean e' = true ∧ (S q = none → Own K S (upd H q o) e' u (q :: (C1 ++ X ++ C3))) ∧ ∀ Q : Hp → Prop, Q (upd H q o) → rPut u y xv H Q := by
  unfold storeO at h
  split at h
  · rename_i ds i
    obtain ⟨j, hj, rfl⟩ := Option.map_eq_some_iff.mp h
    obtain ⟨q, vs, B', rfl, rfl, hq, ow⟩ := o0
    have cd : cleans ds = true := by simpa [clean] using c
    have l := Owns.length _ _ _ ow
    have jl : j < ds.length := (ixN_seq hj).2.1
    obtain ⟨B1, B2, B3, rfl, f⟩ := Owns.setV ds vs B' j ow jl
    obtain ⟨qn, _⟩ := List.nodup_cons.mp nd
    refine ⟨q, .lst (vs.set j xv), B1, B2, B3, rfl, rfl, by simp [clean, cleans_set ds j x cd cx], fun sq => ⟨q, vs.set j xv, B1 ++ X ++ B3, rfl, rfl, upd_same, f S _ x xv X (Same.refl _) cd (fun p hp => upd_ne (by rintro rfl; exact qn (by simp at hp ⊢; rcases hp with hp | hp <;> simp [hp]))) ?_⟩, fun Q k => .inl ⟨q, vs, i, j, rfl, oy.1, hq, by rw [← l]; exact hj, k⟩⟩
    exact Own.keep (Same.refl _) _ _ _ (.inl cx) (fun p hp => upd_ne (by rintro rfl; exact nq p (by simp) hp)) ox
  · rename_i ks ds
    obtain ⟨k0, e0, h2⟩ := Option.bind_eq_some_iff.mp h
    split at h2 <;> cases h2
    rename_i hl
    obtain ⟨q, vs, B', rfl, rfl, hq, kl, ow⟩ := o0
    have cd : cleans ds = true := by simpa [clean] using c
    obtain ⟨B1, B2, B3, rfl, f⟩ := Owns.putV (q := k0) kl ow
    obtain ⟨qn, _⟩ := List.nodup_cons.mp nd
    obtain ⟨z1, z2⟩ := putK_zip (q := k0) (x := xv) kl
    refine ⟨q, .dK (putK (ks.zip vs) k0 xv), B1, B2, B3, rfl, rfl, by simp [clean, cleans_putDs cd cx], fun sq => ⟨q, putDs ks vs k0 xv, B1 ++ X ++ B3, rfl, rfl, by rw [upd_same, z1], z2, f S _ x xv X (Same.refl _) cd (fun p hp => upd_ne (by rintro rfl; exact qn (by simp at hp ⊢; rcases hp with hp | hp <;> simp [hp]))) ?_⟩, fun Q k => .inr ⟨q, _, rfl, .inl ⟨_, k0, hq, Own.key e0 oy, by rw [List.length_zip, kl.1]; simpa [kl.1] using hl, rfl⟩, k⟩⟩
    exact Own.keep (Same.refl _) _ _ _ (.inl cx) (fun p hp => upd_ne (by rintro rfl; exact nq p (by simp) hp)) ox
  · rename_i ks ds es
    obtain ⟨k0, e0, h2⟩ := Option.bind_eq_some_iff.mp h
    split at h2 <;> cases h2
    rename_i hl
    obtain ⟨q, vs, B', rfl, rfl, hq, kl, ow⟩ := o0
    have cd : cleans ds = true := by simpa [clean] using c
    obtain ⟨B1, B2, B3, rfl, f⟩ := Owns.putV (q := k0) kl ow
    obtain ⟨qn, _⟩ := List.nodup_cons.mp nd
    obtain ⟨z1, z2⟩ := putK_zip (q := k0) (x := xv) kl
    obtain ⟨b, us, e2, q2, o2⟩ := Own.seqT s oy
    refine ⟨q, .dT (putK (ks.zip vs) k0 xv), B1, B2, B3, rfl, rfl, by simp [clean, cleans_putDs cd cx], fun sq => ⟨q, putDs ks vs k0 xv, B1 ++ X ++ B3, rfl, rfl, by rw [upd_same, z1], z2, f S _ x xv X (Same.refl _) cd (fun p hp => upd_ne (by rintro rfl; exact qn (by simp at hp ⊢; rcases hp with hp | hp <;> simp [hp]))) ?_⟩, fun Q k => .inr ⟨q, _, rfl, .inr ⟨_, k0, b, hq, e2, by rw [← Owns.keys e0 o2]; exact q2, by rw [List.length_zip, kl.1]; simpa [kl.1] using hl, rfl⟩, k⟩⟩
    exact Own.keep (Same.refl _) _ _ _ (.inl cx) (fun p hp => upd_ne (by rintro rfl; exact nq p (by simp) hp)) ox
  · cases h
theorem setL_no {κ α : Type} [DecidableEq κ] {q : κ} {x : α} : ∀ {ks : List κ} {ds : List α}, q ∉ ks → ks.length = ds.length → setL q x ks ds = ds
  | [], [], _, _ => rfl
  | k :: ks, d :: ds, h, l => by
    simp only [List.mem_cons, not_or] at h
    simp [setL, Ne.symm h.1, setL_no h.2 (by simpa using l)]
  | [], d :: ds, _, l => by simp at l
  | k :: ks, [], _, l => by simp at l
theorem putF_zip {n : Str} {v : V} : ∀ {ks : List Str} {vs : List V}, KL ks vs → putF n v (ks.zip vs) = (putKs ks n).zip (putDs ks vs n v)
  | [], [], _ => by simp [putF, putKs, putDs]
  | [], _ :: _, l => by simp [KL] at l
  | _ :: _, [], l => by simp [KL] at l
  | k :: ks, v0 :: vs, l => by
    obtain ⟨l1, l2⟩ := l
    obtain ⟨l3, l4⟩ := List.nodup_cons.mp l2
    have l5 : ks.length = vs.length := by simpa using l1
    have ih := putF_zip (n := n) (v := v) (ks := ks) (vs := vs) ⟨l5, l4⟩
    rw [List.zip_cons_cons]
    show (if k = n then (k, v) :: ks.zip vs else (k, v0) :: putF n v (ks.zip vs)) = _
    by_cases h : k = n
    · subst h
      simp [putKs, putDs, setL, setL_no l3 l5]
    · rw [if_neg h, ih]
      by_cases h2 : n ∈ ks
      · simp [putKs, putDs, h2, setL, h]
      · have h3 : n ∉ k :: ks := by simp [h2, Ne.symm h]
        simp only [putKs, putDs, if_neg h2, if_neg h3, List.cons_append, List.zip_cons_cons]
end EV
namespace EV
open PySem L2
variable {K : Kz} {XR : PySem.W.Frag} {Φ : Tab} {Se He L L' S S' H H' S0 H0 S1 H1 : Hp} {σ : St} {env env' : Env} {As : Nat → List Addr} {E : XK}
theorem atO_inv {i : Nat} {path : List D} {f : D → Option D} {g : Env → R Out} {P : Out → Prop} (k : Kont XR E H ((atO env i path f).bind g) P) :
    ∃ d e e', env[i]? = some (some d) ∧ getO d path = some e ∧ f e = some e' ∧ Kont XR E H (g (env.set i (some (setO d path e')))) P := by
  unfold atO at k
  cases h : get env i with
  | st => rw [h] at k; exact k.elim
  | ex x => unfold get at h; split at h <;> cases h
  | ok d =>
    rw [h] at k
    cases h2 : (getO d path).bind f with
    | none =>
      have : Kont XR E H ((R.st : R Env).bind g) P := by simpa [R.bind, h2, R.of] using k
      exact this.elim
    | some e' =>
      obtain ⟨e, h3, h4⟩ := Option.bind_eq_some_iff.mp h2
      refine ⟨d, e, e', get_some h, h3, h4, ?_⟩
      simpa [R.bind, h2, R.of] using k
theorem isZs_at : ∀ (ds : List D) (i : Nat) (d : D), isZs ds = true → ds[i]? = some d → isZ d = true
  | [], i, d, _, e => by simp at e
  | x :: xs, 0, d, z, e => by
    simp only [isZs, Bool.and_eq_true] at z
    simp at e
    subst e
    exact z.1
  | x :: xs, i + 1, d, z, e => by
    simp only [isZs, Bool.and_eq_true] at z
    exact isZs_at xs i d z.2 (by simpa using e)
/-- x.append(y) at the end of a path: the value y comes from t -/
theorem appC (fk : FK K.k.K Φ) (hξ : Φ.ξ = K.x) {i : Nat} {path : Cs} {ks : List D} {x d e e' : D} {t : TE} {P : St → Hp → Prop} {Dn : Ends} (a : At K Se He L S H σ env As) (hp : evP Φ path env = .ok ks) (hi : env[i]? = some (some d)) (he : getO d ks = some e) (h2 : appO e x = some e') (cx : clean x = true)
    (tc : ∀ S' H' (Q : VK), Fut S H S' H' → (∀ v S2 H2 X, Fut S' H' S2 H2 → Own K S2 H2 x v X → X.Nodup → (∀ p ∈ X, He p = none ∧ S2 p = none ∧ ∀ j, p ∉ As j) → Q v H2) → t σ H' Q)
    (k : KN K Se He L (env.set i (some (setO d ks e'))) Dn.nx) : tDrop (tBM K "list" rAppend (tP K XR Φ.fd i path) (tCons t tNil)) Dn σ H := by
  refine a.path fk hξ hi hp he fun v u S' H' A1 B A2 hv f a' hA c o reb => ?_
  cases e <;> try (cases h2)
  rename_i fl ds
  cases fl <;> try (cases h2)
  simp only [appO] at h2
  split at h2 <;> cases h2
  rename_i hl
  obtain ⟨q, vs, B', rfl, rfl, hq, ow⟩ := o
  have cd : cleans ds = true := by simpa [clean] using c
  have l := Owns.length _ _ _ ow
  refine ⟨.inl ⟨rfl, vs, .inl (.inl hq)⟩, ?_⟩
  refine tc S' H' _ f fun y S2 H2 X f2 ox nd xn => ?_
  have a2 := a'.grow f2
  have hq2 := f2.hp _ _ hq
  have qi : q ∈ As i := by rw [hA]; simp
  refine ⟨q, vs, y, rfl, rfl, hq2, by rw [← l]; exact hl, ?_⟩
  have nqB : q ∉ B' := by
    have := a.sta.nd i
    rw [hA] at this
    simp only [List.append_assoc, List.nodup_append, List.cons_append, List.nodup_cons, List.mem_append] at this
    exact fun z => this.2.1.1 (.inl z)
  refine a2.write (e' := .lst .o (ds ++ [x])) (C1 := B') (C2 := []) (C3 := []) (X := X) hi hv (by rw [hA]; simp) (reb_fut f2 hA (a'.sta.there i) reb) ⟨q, vs ++ [y], B' ++ X, rfl, by simp, upd_same, Owns.append _ _ _ _ _ _ ?_ (Owns.one ?_)⟩ ?_ nd xn k
  · exact Owns.keep (Same.refl _) _ _ _ (.inl cd) (fun p hp => upd_ne (by rintro rfl; exact nqB hp)) (ow.fut f2)
  · exact Own.keep (Same.refl _) _ _ _ (.inl cx) (fun p hp => upd_ne (by rintro rfl; exact (xn p hp).2.2 i qi)) ox
  · simp [clean, cleans_app ds [x] cd (by simp [cleans, cx])]
theorem evE_own (fk : FK K.k.K Φ) (hξ : Φ.ξ = K.x) (c : C) {x : D} (h : evE Φ c env = .ok x) (a : At K Se He L S H σ env As) (S' H' : Hp) (Q : VK) (f : Fut S H S' H') (k : ∀ v S2 H2 X, Fut S' H' S2 H2 → Own K S2 H2 x v X → X.Nodup → (∀ p ∈ X, He p = none ∧ S2 p = none ∧ ∀ j, p ∉ As j) → Q v H2) :
    tE K XR Φ.fd E0' c σ H' Q := by
  have a' := a.grow f
  refine corE fk hξ E0' c a'.sta ?_
  rw [h]
  intro v S2 H2 X f2 o r
  exact k v S2 H2 X f2 o r.nd fun p hp => ⟨Same.none a'.fut.hp (r.new p hp).1, (r.new p hp).2, fun j z => fresh_dj a'.sta r (j + 1) p hp j (by omega) z⟩
/-- a slot let go -/
theorem Sta.drop (s : Sta K S H σ env As) (j : Nat) : Sta K S H σ (env.set j none) (fun l => if l = j then [] else As l) := by
  refine ⟨s.hx, s.sub, by simp [s.len], fun l d' e => ?_, fun l e => ?_, fun l => ?_, fun l m hlm p hp => ?_, fun l p hp => ?_⟩
  · by_cases hl : l = j
    · subst hl
      by_cases h : l < env.length
      · rw [List.getElem?_set_self h] at e; cases e
      · rw [List.getElem?_eq_none (by simp; omega)] at e; cases e
    · rw [List.getElem?_set_ne (Ne.symm hl)] at e
      simp only [hl, if_false]
      exact s.val l d' e
  · by_cases hl : l = j
    · simp [hl]
    · simp only [hl, if_false]
      exact s.emp l fun d' e' => e d' (by rw [List.getElem?_set_ne (Ne.symm hl)]; exact e')
  · by_cases hl : l = j
    · simp [hl]
    · simp only [hl, if_false]; exact s.nd l
  · by_cases hl : l = j
    · simp [hl] at hp
    · simp only [hl, if_false] at hp
      by_cases hm : m = j
      · simp [hm]
      · simp only [hm, if_false]; exact s.dj l m hlm p hp
  · by_cases hl : l = j
    · simp [hl] at hp
    · simp only [hl, if_false] at hp; exact s.out l p hp
theorem At.drop (a : At K Se He L S H σ env As) (j : Nat) : At K Se He L S H σ (env.set j none) (fun l => if l = j then [] else As l) :=
  ⟨a.anc, a.sta.drop j, a.fut, a.low, fun l p hp => by
    by_cases hl : l = j
    · simp [hl] at hp
    · simp only [hl, if_false] at hp; exact a.new l p hp, fun l x e => by
    by_cases hl : l = j
    · subst hl
      by_cases h : l < env.length
      · rw [List.getElem?_set_self h] at e; cases e
      · rw [List.getElem?_eq_none (by simp; omega)] at e; cases e
    · rw [List.getElem?_set_ne (Ne.symm hl)] at e; exact a.cln l x e⟩
/-- a slot that is not in use stored over -/
theorem At.over (a : At K Se He L S H σ env As) {j : Nat} (v : V) (h : ∀ d, env[j]? ≠ some (some d)) (h0 : K.slf = none ∨ j ≠ 0) : At K Se He L S H (σ.set j (some v)) env As :=
  ⟨a.anc.set h0, ⟨a.sta.hx, a.sta.sub, by simp [a.sta.len], fun l d e => by
    have hl : l ≠ j := fun e2 => h d (by rw [← e2]; exact e)
    rw [List.getElem?_set_ne (Ne.symm hl)]
    exact a.sta.val l d e, a.sta.emp, a.sta.nd, a.sta.dj, a.sta.out⟩, a.fut, a.low, a.new, a.cln⟩
theorem Owns.erase : ∀ (ds : List D) (vs : List V) (B : List Addr) (m : Nat) (x : D), Owns K S H ds vs B → ds[m]? = some x → isZ x = true → ∃ v, vs[m]? = some v ∧ Own K S H x v [] ∧ Owns K S H (ds.eraseIdx m) (vs.eraseIdx m) B
  | [], vs, B, m, x, h, e, z => by simp at e
  | d :: ds, vs, B, 0, x, h, e, z => by
    obtain ⟨v, vs', B1, B2, rfl, rfl, o1, o2⟩ := h
    simp at e
    subst e
    obtain ⟨rfl, o3⟩ := Own.ofZ (H' := H) d v B1 z o1
    exact ⟨v, rfl, o3, o2⟩
  | d :: ds, vs, B, m + 1, x, h, e, z => by
    obtain ⟨v, vs', B1, B2, rfl, rfl, o1, o2⟩ := h
    obtain ⟨u, h1, h2, h3⟩ := Owns.erase ds vs' B2 m x o2 (by simpa using e) z
    exact ⟨u, by simpa using h1, h2, v, vs'.eraseIdx m, B1, B2, rfl, rfl, o1, h3⟩
theorem cleans_erase : ∀ (ds : List D) (m : Nat), cleans ds = true → cleans (ds.eraseIdx m) = true
  | [], m, h => h
  | d :: ds, 0, h => by simp only [cleans, Bool.and_eq_true] at h; exact h.2
  | d :: ds, m + 1, h => by
    simp only [cleans, Bool.and_eq_true] at h
    simp [cleans, h.1, cleans_erase ds m h.2]
/-- a held list written over by a list of the same things, or fewer -/
theorem Owns.rev : ∀ {ds : List D} {vs : List V}, Owns K S H ds vs [] → Owns K S H ds.reverse vs.reverse []
  | [], vs, h => by rw [h.1]; exact ⟨rfl, rfl⟩
  | d :: ds, vs, h => by
    obtain ⟨v, vs', B1, B2, rfl, e, r, rs⟩ := h
    have e1 : B1 = [] := by cases B1 <;> simp at e <;> rfl
    subst e1
    have e2 : B2 = [] := by simpa using e.symm
    subst e2
    rw [List.reverse_cons, List.reverse_cons]
    exact Owns.append _ _ [] _ _ [] (Owns.rev rs) ⟨v, [], [], [], rfl, rfl, r, rfl, rfl⟩
theorem cleans_rev : ∀ (ds : List D), cleans ds = true → cleans ds.reverse = true
  | [], _ => rfl
  | d :: ds, h => by
    simp only [cleans, Bool.and_eq_true] at h
    rw [List.reverse_cons, cleans_appE, cleans_rev ds h.2]
    simp [cleans, h.1]
theorem At.rewrite {i : Nat} {q : Addr} {ds es : List D} {us : List V} {B : List Addr} (a : At K Se He L S H σ env As) (hi : env[i]? = some (some (.lst .o ds))) (hv : σ[i]? = some (some (.ref q))) (hA : As i = q :: B)
    (ow : Owns K S H es us B) (c : cleans es = true) : At K Se He L S (upd H q (.lst us)) σ (env.set i (some (.lst .o es))) As := by
  have nd := a.sta.nd i
  rw [hA] at nd
  have qB := (List.nodup_cons.mp nd).1
  have r := a.change (path := []) (A1 := []) (A2 := []) (B := B) (B' := B) (e' := .lst .o es) (q := q) (o := .lst us) (u := .ref q) hi hv (by simp [hA]) (fun S2 H2 e' B' s k o => by simpa [setO] using o)
    ⟨q, us, B, rfl, rfl, upd_same, Owns.keep (Same.refl _) _ _ _ (.inl c) (fun p hp => upd_ne (by rintro rfl; exact qB hp)) ow⟩ (by simpa [setO, clean] using c) (by simpa using nd) (fun p hp hb => absurd hp hb)
  have e : (fun j => if j = i then [] ++ (q :: B) ++ [] else As j) = As := by
    funext j
    by_cases h : j = i
    · subst h; simp [hA]
    · simp [h]
  rw [e] at r
  exact r
theorem Owns.item (ds : List D) (vs : List V) (B : List Addr) (m : Nat) (es : List D) (h : Owns K S H ds vs B) (c : cleans ds = true) (e : ds[m]? = some (.lst .o es)) :
    ∃ q us B1 B2 B3, vs[m]? = some (.ref q) ∧ H q = some (.lst us) ∧ B = B1 ++ (q :: B2) ++ B3 ∧ Owns K S H es us B2 ∧ cleans es = true ∧
      ∀ S' H' d' B', Same S S' → (∀ p ∈ B1 ++ B3, H' p = H p) → Own K S' H' d' (.ref q) B' → Owns K S' H' (ds.set m d') vs (B1 ++ B' ++ B3) := by
  obtain ⟨v, B1, B2, B3, h1, rfl, h3, h4⟩ := Owns.split ds vs B m _ h e
  obtain ⟨q, us, B', rfl, rfl, hq, ow⟩ := h3
  have ce : cleans es = true := by
    have cl : ∀ (ds : List D) (j : Nat) (d : D), cleans ds = true → ds[j]? = some d → clean d = true := fun ds => by
      induction ds with
      | nil => intro j d _ e; simp at e
      | cons x xs ih =>
        intro j d c e
        simp only [cleans, Bool.and_eq_true] at c
        cases j with
        | zero => simp at e; subst e; exact c.1
        | succ j => exact ih j d c.2 (by simpa using e)
    simpa [clean] using cl ds m _ c e
  exact ⟨q, us, B1, B', B3, h1, hq, rfl, ow, ce, fun S' H' d' B' s k o => h4 S' H' d' B' s c k o⟩
theorem isZ_clean' {d : D} (h : isZ d = true) : clean d = true := isZ_clean d h
/-- items, the first n of them with x behind -/
def eachN (x : D) (n : Nat) (ds : List D) : List D := (ds.take n).map (fun t => (appO t x).getD t) ++ ds.drop n
theorem eachN_get {x : D} {n : Nat} {ds : List D} (h : n < ds.length) : (eachN x n ds)[n]? = some ds[n] := by
  unfold eachN
  rw [List.getElem?_append_right (by simp; omega)]
  have : n - ((ds.take n).map fun t => (appO t x).getD t).length = 0 := by simp; omega
  rw [this, List.getElem?_drop]
  simpa using List.getElem?_eq_getElem h
theorem eachN_set {x : D} {n : Nat} {ds : List D} (h : n < ds.length) : (eachN x n ds).set n ((appO ds[n] x).getD ds[n]) = eachN x (n + 1) ds := by
  unfold eachN
  rw [List.take_succ_eq_append_getElem h, List.map_append]
  rw [List.set_append_right _ _ (by simp; omega)]
  have : n - ((ds.take n).map fun t => (appO t x).getD t).length = 0 := by simp; omega
  rw [this, List.drop_eq_getElem_cons h, List.set_cons_zero, List.append_assoc]
  rfl
theorem cleans_map {f : D → D} (hf : ∀ d, clean d = true → clean (f d) = true) : ∀ ds : List D, cleans ds = true → cleans (ds.map f) = true
  | [], h => h
  | d :: ds, h => by
    simp only [cleans, Bool.and_eq_true] at h
    simp [cleans, hf d h.1, cleans_map hf ds h.2]
theorem cleans_take : ∀ (ds : List D) (n : Nat), cleans ds = true → cleans (ds.take n) = true
  | [], n, h => by simpa using h
  | d :: ds, 0, h => rfl
  | d :: ds, n + 1, h => by
    simp only [cleans, Bool.and_eq_true] at h
    simp [cleans, h.1, cleans_take ds n h.2]
theorem cleans_drop : ∀ (ds : List D) (n : Nat), cleans ds = true → cleans (ds.drop n) = true
  | [], n, h => by simpa using h
  | d :: ds, 0, h => h
  | d :: ds, n + 1, h => by
    simp only [cleans, Bool.and_eq_true] at h
    exact cleans_drop ds n h.2
theorem clean_app1 {x d : D} (cx : clean x = true) (c : clean d = true) : clean ((appO d x).getD d) = true := by
  unfold appO
  split
  · split
    · simp only [Option.getD_some]
      simp only [clean, Bool.and_eq_true] at c ⊢
      exact ⟨c.1, cleans_snoc _ _ c.2 cx⟩
    · exact c
  · exact c
theorem cleans_eachN {x : D} {n : Nat} {ds : List D} (cx : clean x = true) (c : cleans ds = true) : cleans (eachN x n ds) = true :=
  cleans_app _ _ (cleans_map (fun d h => clean_app1 cx h) _ (cleans_take _ _ c)) (cleans_drop _ _ c)
theorem popO_inv {d : D} {n : Int} {r : D × D} (h : popO d n = some r) : ∃ ds m x, d = .lst .o ds ∧ ixN ds.length n = some m ∧ ds[m]? = some x ∧ isZ x = true ∧ (-(2 ^ 63) ≤ n ∧ n < 2 ^ 63) ∧ r = (x, .lst .o (ds.eraseIdx m)) := by
  unfold popO at h
  split at h
  · obtain ⟨m, hm, h⟩ := Option.bind_eq_some_iff.mp h
    obtain ⟨x, hx, h⟩ := Option.bind_eq_some_iff.mp h
    split at h
    · rename_i hz
      simp only [Bool.and_eq_true] at hz
      have hr := rngOk_iff.mp hz.2
      cases h
      exact ⟨_, m, x, rfl, hm, hx, hz.1, ⟨by omega, by omega⟩, rfl⟩
    · cases h
  · cases h
theorem appO_inv {e x e' : D} (h : appO e x = some e') : ∃ es, e = .lst .o es ∧ es.length < sizeLine ∧ e' = .lst .o (es ++ [x]) := by
  unfold appO at h
  split at h
  · split at h
    · cases h
      exact ⟨_, rfl, by assumption, rfl⟩
    · cases h
  · cases h
theorem eachO_inv {x d d' : D} (h : eachO x d = some d') : ∃ ds, d = .lst .o ds ∧ (ds.all fun t => (appO t x).isSome) = true ∧ d' = .lst .o (ds.map fun t => (appO t x).getD t) := by
  unfold eachO at h
  split at h
  · split at h
    · cases h
      exact ⟨_, rfl, by assumption, rfl⟩
    · cases h
  · cases h
/-- .. emptied -/
theorem At.overN (a : At K Se He L S H σ env As) {j : Nat} (h : ∀ d, env[j]? ≠ some (some d)) (h0 : K.slf = none ∨ j ≠ 0) : At K Se He L S H (σ.set j none) env As :=
  ⟨a.anc.set h0, ⟨a.sta.hx, a.sta.sub, by simp [a.sta.len], fun l d e => by
    have hl : l ≠ j := fun e2 => h d (by rw [← e2]; exact e)
    rw [List.getElem?_set_ne (Ne.symm hl)]
    exact a.sta.val l d e, a.sta.emp, a.sta.nd, a.sta.dj, a.sta.out⟩, a.fut, a.low, a.new, a.cln⟩
theorem no_set (e : Env) (j : Nat) (d : D) : (e.set j none)[j]? ≠ some (some d) := by
  intro h
  by_cases hl : j < e.length
  · rw [List.getElem?_set_self hl] at h; cases h
  · rw [List.getElem?_eq_none (by simp; omega)] at h; cases h
theorem noXE_at : ∀ {env : Env} {i : Nat} {d : D}, noXE env = true → env[i]? = some (some d) → noX d = true
  | [], i, d, _, e => by simp at e
  | none :: env, 0, d, n, e => by simp at e
  | some d0 :: env, 0, d, n, e => by
    simp only [noXE, Bool.and_eq_true] at n
    simp at e
    subst e
    exact n.1
  | none :: env, i + 1, d, n, e => noXE_at (env := env) (by simpa [noXE] using n) (by simpa using e)
  | some d0 :: env, i + 1, d, n, e => by
    simp only [noXE, Bool.and_eq_true] at n
    exact noXE_at n.2 (by simpa using e)
/-- another exception is handled -/
theorem At.requ {K' : Kz} (a : At K Se He L S H σ env As) (hK : K'.k.K = K.k.K) (n : noXE env = true) (hx : Hd K' S) (hs : K'.slf = K.slf) : At K' Se He L S H σ env As :=
  ⟨fun p e => a.anc p (hs ▸ e), ⟨hx, a.sta.sub, a.sta.len, fun i d e => by
    obtain ⟨v, h, o⟩ := a.sta.val i d e
    have r := Own.requ (q := K'.k.q) d v _ (noXE_at n e) o
    rw [← hK] at r
    exact ⟨v, h, r⟩, a.sta.emp, a.sta.nd, a.sta.dj, a.sta.out⟩, a.fut, a.low, a.new, a.cln⟩
theorem flat_val {d : D} {v u : V} {B : List Addr} (h : flat d = some v) (o : Own K S H d u B) : u = v := by
  cases d <;> cases h <;> exact o.1
theorem flats_val : ∀ {ds : List D} {vs us : List V} {B : List Addr}, flats ds = some vs → Owns K S H ds us B → us = vs
  | [], vs, us, B, h, o => by cases h; exact o.1
  | d :: ds, vs, us, B, h, o => by
    simp only [flats] at h
    split at h
    · rename_i v vs' h1 h2
      cases h
      obtain ⟨u, us', B1, B2, rfl, rfl, o1, o2⟩ := o
      rw [flat_val h1 o1, flats_val h2 o2]
    · cases h
theorem evB_env : ∀ {b : TB} {env e : Env}, evB Φ b env = .ok (.nx e) → e = env
  | .nil, env, e, h => by cases h; rfl
  | .ret c, env, e, h => by
    simp only [evB] at h
    cases hc : evE Φ c env <;> rw [hc] at h <;> cases h
  | .expr c b, env, e, h => by
    simp only [evB] at h
    cases hc : evE Φ c env with
    | ok d => rw [hc] at h; exact evB_env (b := b) h
    | ex x => rw [hc] at h; cases h
    | st => rw [hc] at h; cases h
  | .ife t x y, env, e, h => by
    simp only [evB] at h
    cases hc : evT Φ t env with
    | ex x => rw [hc] at h; cases h
    | st => rw [hc] at h; cases h
    | ok c =>
      rw [hc] at h
      change (if c = true then (evB Φ x env).nx fun env' => evB Φ y env' else evB Φ y env) = _ at h
      split at h
      · cases hx : evB Φ x env with
        | ex x => rw [hx] at h; cases h
        | st => rw [hx] at h; cases h
        | ok o =>
          rw [hx] at h
          cases o with
          | nx e' =>
            have e1 := evB_env (b := x) hx
            subst e1
            exact evB_env (b := y) h
          | rt d => cases h
          | bk e => cases h
          | ct e => cases h
      · exact evB_env (b := y) h
theorem evB_out : ∀ {b : TB} {env : Env} {o : Out}, evB Φ b env = .ok o → (∃ e, o = .nx e) ∨ ∃ d, o = .rt d
  | .nil, env, o, h => by cases h; exact .inl ⟨_, rfl⟩
  | .ret c, env, o, h => by
    simp only [evB] at h
    cases hc : evE Φ c env <;> rw [hc] at h <;> cases h
    exact .inr ⟨_, rfl⟩
  | .expr c b, env, o, h => by
    simp only [evB] at h
    cases hc : evE Φ c env with
    | ok d => rw [hc] at h; exact evB_out (b := b) h
    | ex x => rw [hc] at h; cases h
    | st => rw [hc] at h; cases h
  | .ife t x y, env, o, h => by
    simp only [evB] at h
    cases hc : evT Φ t env with
    | ex x => rw [hc] at h; cases h
    | st => rw [hc] at h; cases h
    | ok c =>
      rw [hc] at h
      change (if c = true then (evB Φ x env).nx fun env' => evB Φ y env' else evB Φ y env) = _ at h
      split at h
      · cases hx : evB Φ x env with
        | ex x => rw [hx] at h; cases h
        | st => rw [hx] at h; cases h
        | ok o2 =>
          rw [hx] at h
          rcases evB_out hx with ⟨e, rfl⟩ | ⟨d, rfl⟩
          · exact evB_out (b := y) h
          · cases h; exact .inr ⟨_, rfl⟩
      · exact evB_out (b := y) h
/-- a try's body: the slots stay -/
def KOs (K : Kz) (Se He L : Hp) (Dn : Ends) (σ : St) (As : Nat → List Addr) (env : Env) (H0 : Hp) : Out → Prop
  | .nx e => ∀ S H, e = env → Same H0 H → At K Se He L S H σ env As → Dn.nx σ H
  | .rt d => KE K Se He d Dn.rt
  | _ => False
theorem KOs.fut {Dn : Ends} {o : Out} (k : KOs K Se He L Dn σ As env H o) (s : Same H H') : KOs K Se He L Dn σ As env H' o := by
  cases o with
  | nx e => exact fun S2 H2 he s2 a => k S2 H2 he (s.trans s2) a
  | rt d => exact k
  | bk e => exact k
  | ct e => exact k
theorem corB (fk : FK K.k.K Φ) (hξ : Φ.ξ = K.x) (E : SX) : ∀ (b : TB) {S H : Hp} {Dn : Ends}, At K Se He L S H σ env As → Kont XR (E σ) H (evB Φ b env) (KOs K Se He L Dn σ As env H) → tB K XR Φ.fd E b Dn σ H
  | .nil, S, H, Dn, a, k => k S H rfl (Same.refl _) a
  | .ret e, S, H, Dn, a, k => by
    simp only [evB] at k
    exact corE fk hξ E e a.sta (k.bind (Same.refl _) fun d _ k => KE.fut k a.fut)
  | .expr e b, S, H, Dn, a, k => by
    simp only [evB] at k
    refine corE fk hξ E e a.sta (k.bind (Same.refl _) fun d _ k => ?_)
    intro v S1 H1 B f o r
    exact corB fk hξ E b (a.grow f) (Kont.imp k f.hp fun _ _ k => k.fut f.hp)
  | .ife t x y, S, H, Dn, a, k => by
    simp only [evB] at k
    refine corT fk hξ E t a.sta (k.bind (Same.refl _) fun c _ k => ?_)
    intro S1 H1 f
    cases c with
    | true =>
      refine iff_tt (corB fk hξ E x (a.grow f) (Kont.bind (show Kont XR (E σ) H ((evB Φ x env).bind _) _ from k) f.hp fun o ho k => ?_))
      cases o with
      | nx e =>
        intro S2 H2 he s2 a2
        have k : Kont XR (E σ) H (evB Φ y e) _ := k
        rw [he] at k
        exact corB fk hξ E y a2 (Kont.imp k (f.hp.trans s2) fun _ _ k => k.fut (f.hp.trans s2))
      | rt d => exact k
      | bk e => exact k.elim
      | ct e => exact k.elim
    | false => exact iff_ff (corB fk hξ E y (a.grow f) (Kont.imp k f.hp fun _ _ k => k.fut f.hp))
/-- an own wish, whatever the slots -/
abbrev kE (E : XK) : SX := fun _ => E
theorem anc_tg {σ' : St} {t : Tg} (a : Anc K σ) (hk : ∀ j, j ∉ t.slots → σ'[j]? = σ[j]?) (h : K.slf = none ∨ t.slots0 = false) : Anc K σ' := fun p e => by
  rcases h with h | h
  · rw [h] at e; cases e
  · rw [hk 0 (by cases t <;> simp_all [Tg.slots0, Tg.slots] <;> omega)]
    exact a p e
mutual
theorem corS : ∀ (st : EV.S) (E : XK) {K : Kz} {Φ : Tab} (fk : FK K.k.K Φ) (hξ : Φ.ξ = K.x) (hX : XR = K.k.K) (ns : K.slf = none ∨ okS st = true) {L S H : Hp} {σ : St} {env : Env} {As : Nat → List Addr} {Dn : Ends}, At K Se He L S H σ env As → Kont XR E He (evS Φ st env) (KO K Se He L Dn) → tS K XR Φ.fd (kE E) st Dn σ H
  | .asg t e, E, K, Φ, fk, hξ, hX, ns, L, S, H, σ, env, As, Dn, a, k => by
    simp only [evS] at k
    refine corE fk hξ (kE E) e a.sta (k.bind a.fut.hp fun d _ k => ?_)
    intro v S1 H1 B f o r
    have a1 := a.grow f
    cases t with
    | name i =>
      have k : Kont XR E He (if (clean d && decide (i < env.length)) = true then R.ok (Out.nx (env.set i (some d))) else R.st) (KO K Se He L Dn) := k
      split at k
      · rename_i h
        simp only [Bool.and_eq_true, decide_eq_true_eq] at h
        exact k _ _ _ _ (a1.store h.2 h.1 o (r.back a.fut.hp) (fresh_dj a.sta r i) (ns.imp id fun z => by simpa [okS, Tg.slots0] using z))
      · exact k.elim
    | tup is =>
      have k : Kont XR E He (if isZ d = true then (setTg (.tup is) d env).bind fun env' => R.ok (Out.nx env') else R.st) (KO K Se He L Dn) := k
      split at k
      · rename_i z
        obtain ⟨rfl, _⟩ := Own.ofZ (H' := H1) d v B z o
        cases h : setTg (.tup is) d env with
        | st => rw [h] at k; exact k.elim
        | ex x => exact absurd h setTg_ne
        | ok env' =>
          rw [h] at k
          exact setTgC a1.sta h o fun σ' As' s' l hk hA => k σ' _ _ _ ⟨anc_tg a1.anc hk (ns.imp id fun z => by simpa [okS] using z), s', a1.fut, a1.low, fun j p hp => a1.new j p (hA j p hp), fun j x e => (setTg_z h z j x e).elim (a1.cln j x) (isZ_clean x)⟩
      · exact k.elim
  | .mvs i j, E, K, Φ, fk, hξ, hX, ns, L, S, H, σ, env, As, Dn, a, k => by
    simp only [evS] at k
    obtain ⟨d, hj, k⟩ := get_ok k
    split at k
    · rename_i h
      simp only [Bool.and_eq_true, decide_eq_true_eq] at h
      have c := a.cln j d hj
      obtain ⟨v, hv, o⟩ := a.sta.val j d hj
      refine ⟨v, hv, ?_⟩
      have s2 : Sta K S H σ (env.set j none) (fun l => if l = j then [] else As l) := by
        refine ⟨a.sta.hx, a.sta.sub, by simp [a.sta.len], fun l d' e => ?_, fun l e => ?_, fun l => ?_, fun l m hlm p hp => ?_, fun l p hp => ?_⟩
        · by_cases hl : l = j
          · subst hl
            rw [List.getElem?_set_self (List.getElem?_eq_some_iff.mp hj).1] at e
            cases e
          · rw [List.getElem?_set_ne (Ne.symm hl)] at e
            simp only [hl, if_false]
            exact a.sta.val l d' e
        · by_cases hl : l = j
          · simp [hl]
          · simp only [hl, if_false]
            exact a.sta.emp l fun d' e' => e d' (by rw [List.getElem?_set_ne (Ne.symm hl)]; exact e')
        · by_cases hl : l = j
          · simp [hl]
          · simp only [hl, if_false]; exact a.sta.nd l
        · by_cases hl : l = j
          · simp [hl] at hp
          · simp only [hl, if_false] at hp
            by_cases hm : m = j
            · simp [hm]
            · simp only [hm, if_false]; exact a.sta.dj l m hlm p hp
        · by_cases hl : l = j
          · simp [hl] at hp
          · simp only [hl, if_false] at hp; exact a.sta.out l p hp
      have a2 : At K Se He L S H σ (env.set j none) (fun l => if l = j then [] else As l) := ⟨a.anc, s2, a.fut, a.low, fun l p hp => by
        by_cases hl : l = j
        · simp [hl] at hp
        · simp only [hl, if_false] at hp; exact a.new l p hp, fun l x e => by
        by_cases hl : l = j
        · subst hl; rw [List.getElem?_set_self (List.getElem?_eq_some_iff.mp hj).1] at e; cases e
        · rw [List.getElem?_set_ne (Ne.symm hl)] at e; exact a.cln l x e⟩
      refine k _ _ _ _ (a2.store (i := i) (B := As j) (by simpa using h.1) c o ⟨a.sta.nd j, fun p hp => ⟨a.new j p hp, a.sta.out j p hp⟩⟩ (fun p hp l hl z => ?_) (ns.imp id fun z => by simpa [okS] using z))
      by_cases hlj : l = j
      · simp [hlj] at z
      · simp only [hlj, if_false] at z
        exact a.sta.dj j l (Ne.symm hlj) p hp z
    · exact k.elim
  | .aug i n e, E, K, Φ, fk, hξ, hX, ns, L, S, H, σ, env, As, Dn, a, k => by
    simp only [evS] at k
    obtain ⟨d, hi, k⟩ := get_ok k
    have c := a.cln i d hi
    obtain ⟨v, hv, o⟩ := a.sta.val i d hi
    refine ⟨v, hv, ?_⟩
    refine corE fk hξ (kE E) e a.sta (k.bind a.fut.hp fun y _ k => ?_)
    intro w S1 H1 B f oy r
    have a1 := a.grow f
    obtain ⟨x0, e0, k⟩ := k.ofBind
    obtain ⟨y0, e1, k⟩ := k.ofBind
    obtain rfl : d = .int x0 := by cases d <;> cases e0 <;> rfl
    obtain rfl : y = .int y0 := by cases y <;> cases e1 <;> rfl
    refine ⟨x0, y0, o.1, oy.1, ?_⟩
    exact k _ _ _ _ (a1.store (List.getElem?_eq_some_iff.mp hi).1 rfl ⟨rfl, rfl⟩ .nil (fun _ z => nomatch z) (ns.imp id fun z => by simpa [okS] using z))
  | .app i path e, E, K, Φ, fk, hξ, hX, ns, L, S, H, σ, env, As, Dn, a, k => by
    simp only [evS] at k
    cases hp : evP Φ path env with
    | st => rw [hp] at k; exact k.elim
    | ex x => exact absurd hp (evP_ne _ _ _)
    | ok ks =>
      rw [hp] at k
      obtain ⟨x, hx, k⟩ := noEx_k k
      split at k
      · rename_i cx
        obtain ⟨d, t, t', hi, h1, h2, k⟩ := atO_inv k
        exact appC fk hξ (P := fun _ _ => True) a hp hi h1 h2 cx (fun S' H' Q f kk => evE_own fk hξ e hx a S' H' Q f kk) k
      · exact k.elim
  | .put i path kx e, E, K, Φ, fk, hξ, hX, ns, L, S, H, σ, env, As, Dn, a, k => by
    simp only [evS] at k
    refine corE fk hξ (kE E) e a.sta (k.bind a.fut.hp fun x _ k => ?_)
    intro xv S1 H1 X f1 ox rx
    have a1 := a.grow f1
    cases hp : evP Φ path env with
    | st => rw [hp] at k; exact k.elim
    | ex x => exact absurd hp (evP_ne _ _ _)
    | ok ks =>
      rw [hp] at k
      obtain ⟨kv, hk, k⟩ := noEx_k k
      split at k
      · rename_i cx
        obtain ⟨d, t, t', hi, h1, h2, k⟩ := atO_inv k
        refine a1.path fk hξ hi hp h1 fun v u S2 H2 A1 B A2 hv f2 a2 hA c o reb => ?_
        refine corE fk hξ E0' kx a2.sta ?_
        rw [hk]
        intro y S3 H3 By f3 oy ry
        have a3 := a2.grow f3
        have ox3 := (ox.fut f2).fut f3
        have rx3 : Fresh H S3 X := (rx.fut f2 (Own.there _ _ _ ox)).fut f3 (Own.there _ _ _ (ox.fut f2))
        have xn : ∀ p ∈ X, He p = none ∧ S3 p = none ∧ ∀ j, p ∉ As j := fun p hp => ⟨Same.none a.fut.hp (rx3.new p hp).1, (rx3.new p hp).2, fun j z => fresh_dj a.sta rx3 (j + 1) p hp j (by omega) z⟩
        have ndB : B.Nodup := by
          have := a.sta.nd i
          rw [hA] at this
          exact (List.nodup_append.mp (List.nodup_append.mp this).1).2.1
        obtain ⟨q, ob, C1, C2, C3, rfl, rfl, ce, own, put⟩ := storeC f3.sub c cx h2 (o.fut f3) oy ox3 (fun q hq z => (xn q z).2.2 i (by rw [hA]; simp [hq])) ndB
        have qi : q ∈ As i := by rw [hA]; simp
        exact put _ (a3.write hi hv hA (reb_fut f3 hA (a2.sta.there i) reb) (own (a3.sta.out i q qi)) ce rx3.nd xn k)
      · exact k.elim
  | .augp i path kx n e, E, K, Φ, fk, hξ, hX, ns, L, S, H, σ, env, As, Dn, a, k => by
    simp only [evS] at k
    cases hp : evP Φ path env with
    | st => rw [hp] at k; exact k.elim
    | ex x => exact absurd hp (evP_ne _ _ _)
    | ok ks =>
      rw [hp] at k
      obtain ⟨kv, hk, k⟩ := noEx_k k
      obtain ⟨d, hi, k⟩ := get_ok k
      obtain ⟨o0, hget, k⟩ := k.ofBind
      obtain ⟨t, h1, hst⟩ := Option.bind_eq_some_iff.mp hget
      obtain ⟨y0, he, k⟩ := noEx_k k
      obtain ⟨x1, e1, k⟩ := k.ofBind
      obtain ⟨y1, e2, k⟩ := k.ofBind
      obtain rfl : o0 = .int x1 := by cases o0 <;> cases e1 <;> rfl
      obtain rfl : y0 = .int y1 := by cases y0 <;> cases e2 <;> rfl
      obtain ⟨d', t2, t', hi', h1', h2, k⟩ := atO_inv k
      rw [hi] at hi'
      cases hi'
      rw [h1] at h1'
      cases h1'
      refine a.path fk hξ hi hp h1 fun v u S2 H2 A1 B A2 hv f2 a2 hA c o reb => ?_
      refine corE fk hξ E0' kx a2.sta ?_
      rw [hk]
      intro y S3 H3 By f3 oy ry
      have a3 := a2.grow f3
      obtain ⟨w, C1, C, C2, hB, cw, ow, get, _⟩ := stepC f3.sub c hst (o.fut f3) oy
      refine get _ ?_
      refine corE fk hξ E0' e a3.sta ?_
      rw [he]
      intro z S4 H4 Bz f4 oz rz
      have a4 := a3.grow f4
      refine ⟨x1, y1, ow.1, oz.1, ?_⟩
      have ndB : B.Nodup := by
        have := a.sta.nd i
        rw [hA] at this
        exact (List.nodup_append.mp (List.nodup_append.mp this).1).2.1
      obtain ⟨q, ob, D1, D2, D3, rfl, rfl, ce, own, put⟩ := storeC (X := []) f4.sub c rfl h2 ((o.fut f3).fut f4) (oy.fut f4) (⟨rfl, rfl⟩ : Own K S4 H4 (.int (if n then x1 - y1 else x1 + y1)) _ []) (fun q hq z => nomatch z) ndB
      have qi : q ∈ As i := by rw [hA]; simp
      refine put _ (a4.write hi hv hA (reb_fut (f3.trans f4) hA (a2.sta.there i) reb) (own (a4.sta.out i q qi)) ce List.nodup_nil (fun _ z => nomatch z) k)
  | .expr e, E, K, Φ, fk, hξ, hX, ns, L, S, H, σ, env, As, Dn, a, k => by
    simp only [evS] at k
    refine corE fk hξ (kE E) e a.sta (k.bind a.fut.hp fun d _ k => ?_)
    intro v S1 H1 B f o r
    exact k _ _ _ _ (a.grow f)
  | .ife t x y, E, K, Φ, fk, hξ, hX, ns, L, S, H, σ, env, As, Dn, a, k => by
    simp only [evS] at k
    refine corT fk hξ (kE E) t a.sta (k.bind a.fut.hp fun c _ k => ?_)
    intro S1 H1 f
    cases c with
    | true => exact iff_tt (corSs x E fk hξ hX (ns.imp id fun z => by simp only [okS, Bool.and_eq_true] at z; exact z.1) (a.grow f) k)
    | false => exact iff_ff (corSs y E fk hξ hX (ns.imp id fun z => by simp only [okS, Bool.and_eq_true] at z; exact z.2) (a.grow f) k)
  | .whl n t b, E, K, Φ, fk, hξ, hX, ns, L, S, H, σ, env, As, Dn, a, k => by
    simp only [evS] at k
    refine ⟨fun m σ H => ∃ S env As, At K Se He L S H σ env As ∧ Kont XR E He (whileN (evT Φ t) (evSs Φ b) m env) (KO K Se He L Dn), ⟨n, S, env, As, a, k⟩, ?_⟩
    rintro m σ H ⟨S, env, As, a, k⟩
    cases m with
    | zero => exact k.elim
    | succ m =>
      simp only [whileN] at k
      refine corT fk hξ (kE E) t a.sta (k.bind a.fut.hp fun c _ k => ?_)
      intro S1 H1 f
      cases c with
      | false => exact iff_ff (k _ _ _ _ (a.grow f))
      | true =>
        refine iff_tt ⟨fun σ H => ∃ S env As, At K Se He L S H σ env As ∧ Kont XR E He (whileN (evT Φ t) (evSs Φ b) m env) (KO K Se He L Dn), fun σ' H' h => ⟨m, Nat.lt_succ_self m, h⟩, ?_⟩
        refine corSs b E fk hξ hX (ns.imp id fun z => by simpa only [okS] using z) (a.grow f) (Kont.bind (show Kont XR E He ((evSs Φ b env).bind _) _ from k) (Same.refl _) fun o _ k => ?_)
        cases o with
        | nx e => exact fun σ S H As a => ⟨S, e, As, a, k⟩
        | ct e => exact fun σ S H As a => ⟨S, e, As, a, k⟩
        | bk e => exact k
        | rt d => exact k
  | .fr it tg b, E, K, Φ, fk, hξ, hX, ns, L, S, H, σ, env, As, Dn, a, k => by
    simp only [evS] at k
    refine corI fk hξ (kE E) it false a.sta (k.bind a.fut.hp fun ds _ k => ?_)
    intro J S1 H1 f J1 z0
    have z : isZs ds = true := z0.resolve_left Bool.false_ne_true
    have a1 := a.grow f
    have low1 : Same L S1 := a1.low
    refine ⟨fun i m σ H => m = ds.length - i ∧ i ≤ ds.length ∧ ∃ S env As, At K Se He S1 S H σ env As ∧ Kont XR E He (forL (fun d env => (setTg tg d env).bind fun env' => evSs Φ b env') (ds.drop i) env) (KO K Se He L Dn),
      ⟨ds.length, by simp, Nat.zero_le _, S1, env, As, ⟨a1.anc, a1.sta, a1.fut, Same.refl _, a1.new, a1.cln⟩, by simpa using k⟩, ?_⟩
    rintro i m σ H ⟨rfl, hi, S, env, As, a, k⟩
    have pH : stays false S1 H1 H := ⟨fun x o e => a.sta.sub x o (a.low x o e), fun h => nomatch h⟩
    by_cases hlt : i < ds.length
    · refine .inr ⟨J1.go i H pH hlt, fun σ H => i + 1 ≤ ds.length ∧ ∃ S env As, At K Se He S1 S H σ env As ∧ Kont XR E He (forL (fun d env => (setTg tg d env).bind fun env' => evSs Φ b env') (ds.drop (i + 1)) env) (KO K Se He L Dn),
        fun σ' H' h => ⟨ds.length - (i + 1), by omega, rfl, h⟩, fun x H' y => ?_⟩
      have ei : ds[i]? = some ds[i] := List.getElem?_eq_getElem hlt
      obtain ⟨S9, fy, ox2⟩ := J1.yld i H x H' _ S pH y ei a.low a.sta.sub
      have a := a.grow fy
      clear fy
      rw [List.drop_eq_getElem_cons hlt] at k
      simp only [forL] at k
      cases h : setTg tg ds[i] env with
      | st => rw [h] at k; exact k.elim
      | ex x => exact absurd h setTg_ne
      | ok env' =>
        rw [h] at k
        refine setTgC a.sta h ox2 fun σ' As' s' l hk hA => ?_
        refine corSs b E fk hξ hX (ns.imp id fun z => by simp only [okS, Bool.and_eq_true] at z; exact z.2) (⟨anc_tg a.anc hk (ns.imp id fun z => by simp only [okS, Bool.and_eq_true] at z; simpa using z.1), s', a.fut, a.low, fun j p hp => a.new j p (hA j p hp), fun j x e => (setTg_z h (isZs_at ds i _ z ei) j x e).elim (a.cln j x) (isZ_clean x)⟩ : At K Se He S1 S9 H' σ' env' As') (Kont.bind (show Kont XR E He ((evSs Φ b env').bind _) _ from k) (Same.refl _) fun o _ k => ?_)
        cases o with
        | nx e => exact fun σ S H As a => ⟨hlt, S, e, As, a, k⟩
        | ct e => exact fun σ S H As a => ⟨hlt, S, e, As, a, k⟩
        | bk e => exact KN.raise k low1
        | rt d => exact k
    · have e : i = ds.length := by omega
      subst e
      refine .inl ⟨J1.stop _ H pH (Nat.le_refl _), ?_⟩
      rw [List.drop_length] at k
      exact k _ _ _ _ (a.lower low1)
  | .ret e, E, K, Φ, fk, hξ, hX, ns, L, S, H, σ, env, As, Dn, a, k => by
    simp only [evS] at k
    exact corE fk hξ (kE E) e a.sta (k.bind a.fut.hp fun d _ k => KE.fut k a.fut)
  | .retn, E, K, Φ, fk, hξ, hX, ns, L, S, H, σ, env, As, Dn, a, k => KE.non k a.fut
  | .retmv i, E, K, Φ, fk, hξ, hX, ns, L, S, H, σ, env, As, Dn, a, k => by
    simp only [evS] at k
    obtain ⟨d, hi, k⟩ := get_ok k
    have c := a.cln i d hi
    obtain ⟨v, hv, o⟩ := a.sta.val i d hi
    exact ⟨v, hv, k v S H (As i) a.fut o ⟨a.sta.nd i, fun p hp => ⟨a.new i p hp, a.sta.out i p hp⟩⟩⟩
  | .brk, E, K, Φ, fk, hξ, hX, ns, L, S, H, σ, env, As, Dn, a, k => k _ _ _ _ a
  | .cont, E, K, Φ, fk, hξ, hX, ns, L, S, H, σ, env, As, Dn, a, k => k _ _ _ _ a
  | .pass, E, K, Φ, fk, hξ, hX, ns, L, S, H, σ, env, As, Dn, a, k => k _ _ _ _ a
  | .frz i, E, K, Φ, fk, hξ, hX, ns, L, S, H, σ, env, As, Dn, a, k => by
    simp only [evS] at k
    obtain ⟨d, hi, k⟩ := get_ok k
    have c := a.cln i d hi
    obtain ⟨v, hv, o⟩ := a.sta.val i d hi
    have r : Fresh He S (As i) := ⟨a.sta.nd i, fun p hp => ⟨a.new i p hp, a.sta.out i p hp⟩⟩
    obtain ⟨g, s⟩ := a.fut.more r
    refine k σ (more S H (As i)) H (fun j => if j = i then [] else As j) ⟨a.anc, ⟨a.sta.hx.same s, g.sub, by simp [a.sta.len], fun j d' e => ?_, fun j e => ?_, fun j => ?_, fun j l hjl p hp => ?_, fun j p hp => ?_⟩, g, a.low.trans s, fun j p hp => ?_, fun j x e => ?_⟩
    · by_cases h : j = i
      · subst h
        rw [List.getElem?_set_self (List.getElem?_eq_some_iff.mp hi).1] at e
        cases e
        exact ⟨v, hv, by simpa using Own.freeze s d v _ c (fun p hp => more_in hp) o⟩
      · rw [List.getElem?_set_ne (Ne.symm h)] at e
        obtain ⟨v', h1, h2⟩ := a.sta.val j d' e
        exact ⟨v', h1, by simpa [h] using Own.keep s _ _ _ (.inr (Same.refl _)) (fun _ _ => rfl) h2⟩
    · by_cases h : j = i
      · simp [h]
      · simp only [h, if_false]
        exact a.sta.emp j fun d' e' => e d' (by rw [List.getElem?_set_ne (Ne.symm h)]; exact e')
    · by_cases h : j = i
      · simp [h]
      · simp only [h, if_false]; exact a.sta.nd j
    · by_cases h : j = i
      · simp [h] at hp
      · simp only [h, if_false] at hp
        by_cases h2 : l = i
        · simp [h2]
        · simp only [h2, if_false]; exact a.sta.dj j l hjl p hp
    · by_cases h : j = i
      · simp [h] at hp
      · simp only [h, if_false] at hp
        rw [more_out (fun z => a.sta.dj j i h p hp z)]
        exact a.sta.out j p hp
    · by_cases h : j = i
      · simp [h] at hp
      · simp only [h, if_false] at hp; exact a.new j p hp
    · by_cases h : j = i
      · subst h
        rw [List.getElem?_set_self (List.getElem?_eq_some_iff.mp hi).1] at e
        cases e
        exact isZ_clean _ (isZ_zz d)
      · rw [List.getElem?_set_ne (Ne.symm h)] at e
        exact a.cln j x e
  | .apop i j kx, E, K, Φ, fk, hξ, hX, ns, L, S, H, σ, env, As, Dn, a, k => by
    simp only [evS] at k
    obtain ⟨qv, hq, k⟩ := noEx_k k
    obtain ⟨n, e1, k⟩ := k.ofBind
    obtain rfl : qv = .int n := by cases qv <;> cases e1 <;> rfl
    obtain ⟨d, hj, k⟩ := get_ok k
    obtain ⟨e, hi, k⟩ := get_ok k
    obtain ⟨r, hr, k⟩ := k.ofBind
    obtain ⟨e', he, k⟩ := k.ofBind
    split at k
    rotate_left
    · exact k.elim
    rename_i hij
    simp only [decide_eq_true_eq] at hij
    obtain ⟨ds, m, x, rfl, hm, hx, hz1, hz2, rfl⟩ := popO_inv hr
    have hz : isZ x = true ∧ _ := ⟨hz1, hz2⟩
    obtain ⟨es, rfl, hes, rfl⟩ := appO_inv he
    have cd := a.cln j _ hj
    have ce := a.cln i _ hi
    simp only [clean, Bool.and_eq_true] at cd ce
    obtain ⟨vj, hvj, oj⟩ := a.sta.val j _ hj
    obtain ⟨vi, hvi, oi⟩ := a.sta.val i _ hi
    obtain ⟨qi, us, Bi, rfl, hAi, hqi, owi⟩ := oi
    refine ⟨_, hvi, .inl ⟨rfl, us, .inl (.inl hqi)⟩, ?_⟩
    obtain ⟨qj, vs, Bj, rfl, hAj, hqj, owj⟩ := oj
    refine ⟨_, hvj, .inl ⟨rfl, vs, .inl (.inl hqj)⟩, ?_⟩
    refine corE fk hξ E0' kx a.sta ?_
    rw [hq]
    intro y S1 H1 By f1 oy ry
    have a1 := a.grow f1
    obtain ⟨w, hw, ox, ow2⟩ := Owns.erase ds vs Bj m x (owj.fut f1) hx hz.1
    have l := Owns.length _ _ _ owj
    refine ⟨qj, vs, n, m, w, rfl, by rw [oy.1], f1.hp _ _ hqj, hz.2.1, hz.2.2, by rw [← l]; exact (ixN_seq hm).1, hw, ?_⟩
    have a2 := a1.rewrite hj hvj hAj ow2 (cleans_erase ds m cd.2)
    have hne : qi ≠ qj := fun z => a.sta.dj i j hij qi (by rw [hAi]; simp) (by rw [hAj, z]; simp)
    have hqi2 : upd H1 qj (.lst (vs.eraseIdx m)) qi = some (.lst us) := by rw [upd_ne hne]; exact f1.hp _ _ hqi
    have li := Owns.length _ _ _ owi
    refine ⟨qi, us, w, rfl, rfl, hqi2, by omega, ?_⟩
    have hi2 : (env.set j (some (.lst .o (ds.eraseIdx m))))[i]? = some (some (.lst .o es)) := by rw [List.getElem?_set_ne (Ne.symm hij)]; exact hi
    obtain ⟨v3, hv3, o3⟩ := a2.sta.val i _ hi2
    rw [hvi] at hv3
    cases hv3
    obtain ⟨q3, us3, B3, e3, hA3, hq3, ow3⟩ := o3
    cases e3
    rw [hqi2] at hq3
    cases hq3
    have ox3 : Own K S1 (upd H1 qj (.lst (vs.eraseIdx m))) x w [] := (Own.ofZ x w [] hz.1 ox).2
    refine k _ _ _ _ (a2.rewrite hi2 hvi hA3 (by simpa using Owns.append _ _ _ _ _ _ ow3 (Owns.one ox3)) (cleans_snoc _ _ ce.2 (isZ_clean x hz.1)))
  | .rev i, E, K, Φ, fk, hξ, hX, ns, L, S, H, σ, env, As, Dn, a, k => by
    simp only [evS] at k
    obtain ⟨d, hi, k⟩ := get_ok k
    split at k
    rotate_left
    · exact k.elim
    rename_i ds
    split at k
    rotate_left
    · exact k.elim
    rename_i zd
    have cd := a.cln i _ hi
    simp only [clean, Bool.and_eq_true] at cd
    obtain ⟨v, hv, o⟩ := a.sta.val i _ hi
    obtain ⟨q0, vs, B0, rfl, hA0, hq0, ow0⟩ := o
    obtain ⟨hB, ow1⟩ := Owns.ofZ (H' := H) _ _ _ zd ow0
    subst hB
    refine ⟨_, hv, .inl ⟨rfl, vs, .inl (.inl hq0)⟩, q0, vs, rfl, rfl, hq0, ?_⟩
    exact k _ _ _ _ (a.rewrite hi hv hA0 (Owns.rev ow1) (cleans_rev _ cd.2))
  | .each i g ex, E, K, Φ, fk, hξ, hX, ns, L, S, H, σ, env, As, Dn, a, k => by
    simp only [evS] at k
    obtain ⟨d, hi, k⟩ := get_ok k
    obtain ⟨x, hx, k⟩ := noEx_k k
    obtain ⟨d', hd, k⟩ := k.ofBind
    split at k
    rotate_left
    · exact k.elim
    rename_i hg
    simp only [Bool.and_eq_true, decide_eq_true_eq] at hg
    obtain ⟨⟨zx, hgl⟩, hgi⟩ := hg
    obtain ⟨ds, rfl, hall, rfl⟩ := eachO_inv hd
    have cd := a.cln i _ hi
    simp only [clean, Bool.and_eq_true] at cd
    have hil : i < env.length := (List.getElem?_eq_some_iff.mp hi).1
    obtain ⟨v, hv, o⟩ := a.sta.val i _ hi
    obtain ⟨q0, vs, B0, rfl, hA0, hq0, ow0⟩ := o
    have lv := Owns.length _ _ _ ow0
    refine ⟨_, hv, q0, rfl, .inl ⟨vs, .inl (.inl hq0), ?_⟩⟩
    have nog : ∀ (e2 : Env) (d : D), (e2.set g none)[g]? ≠ some (some d) := fun e2 d h => by
      by_cases h2 : g < e2.length
      · rw [List.getElem?_set_self h2] at h; cases h
      · rw [List.getElem?_eq_none (by simp; omega)] at h; cases h
    refine ⟨fun n m σ' H' => m = ds.length - n ∧ n ≤ ds.length ∧ σ'[i]? = some (some (.ref q0)) ∧ H' q0 = some (.lst vs) ∧ ∃ S' As', At K Se He L S' H' σ' ((env.set i (some (.lst .o (eachN x n ds)))).set g none) As', ⟨ds.length, by simp, Nat.zero_le _, hv, hq0, S, fun l => if l = g then [] else As l, ?_⟩, ?_⟩
    · have a0 := a.drop g
      have e0 : env.set i (some (.lst .o (eachN x 0 ds))) = env := by
        have : eachN x 0 ds = ds := by simp [eachN]
        rw [this]
        exact List.ext_getElem? fun j => by
          by_cases h : j = i
          · subst h; rw [List.getElem?_set_self hil, hi]
          · rw [List.getElem?_set_ne (Ne.symm h)]
      rw [e0]
      exact a0
    rintro n m σ' H' ⟨rfl, hn, hv', hq', S', As', a'⟩
    have hq2 : SqL K H' q0 vs := .inl (.inl hq')
    have hi' : ((env.set i (some (.lst .o (eachN x n ds)))).set g none)[i]? = some (some (.lst .o (eachN x n ds))) := by
      rw [List.getElem?_set_ne hgi, List.getElem?_set_self hil]
    by_cases hlt : n < ds.length
    · have hlv : n < vs.length := by omega
      refine .inr ⟨⟨vs, vs[n], hq2, List.getElem?_eq_getElem hlv⟩, fun σ2 H2 => n + 1 ≤ ds.length ∧ σ2[i]? = some (some (.ref q0)) ∧ H2 q0 = some (.lst vs) ∧ ∃ S' As', At K Se He L S' H2 σ2 ((env.set i (some (.lst .o (eachN x (n + 1) ds)))).set g none) As', fun σ2 H2 h => ⟨ds.length - (n + 1), by omega, rfl, h⟩, fun y H2 hy => ?_⟩
      obtain ⟨rfl, hy⟩ := hy
      have ey := hy vs hq2
      have a2 := a'.over (j := g) y (nog _) (ns.imp id fun z => by simpa [okS] using z)
      have hv2 : (σ'.set g (some y))[i]? = some (some (.ref q0)) := by rw [List.getElem?_set_ne hgi]; exact hv'
      obtain ⟨v3, hv3, o3⟩ := a2.sta.val i _ hi'
      rw [hv2] at hv3
      cases hv3
      obtain ⟨q3, vs3, B3, e3, hA3, hq3, ow3⟩ := o3
      cases e3
      rw [hq'] at hq3
      cases hq3
      have hd1 : (appO ds[n] x).isSome = true := List.all_eq_true.mp hall _ (List.getElem_mem hlt)
      obtain ⟨es, hes, hel⟩ : ∃ es, ds[n] = .lst .o es ∧ es.length < sizeLine := by
        generalize ds[n] = t at hd1
        unfold appO at hd1
        split at hd1
        · split at hd1
          · exact ⟨_, rfl, by assumption⟩
          · cases hd1
        · cases hd1
      have nd3 := a2.sta.nd i
      rw [hA3, List.nodup_cons] at nd3
      have ca : cleans (eachN x n ds) = true := cleans_eachN (isZ_clean x zx) cd.2
      have gx : (eachN x n ds)[n]? = some (.lst .o es) := by rw [eachN_get hlt, hes]
      obtain ⟨q, us, B1, B2, B4, g1, g2, g3, g4, g5, _⟩ := Owns.item _ _ _ n es ow3 ca gx
      rw [ey] at g1
      cases g1
      have hgσ : g < σ'.length := by rw [a'.sta.len]; simpa using hgl
      refine ⟨_, List.getElem?_set_self hgσ, .inl ⟨rfl, us, .inl (.inl g2)⟩, ?_⟩
      have sd := (a2.drop i).sta
      have ed : (((env.set i (some (.lst .o (eachN x n ds)))).set g none).set i none) = (env.set i none).set g none := by
        refine List.ext_getElem? fun j => ?_
        by_cases h1 : j = i
        · subst h1
          rw [List.getElem?_set_self (by simpa using hil), List.getElem?_set_ne hgi, List.getElem?_set_self hil]
        · rw [List.getElem?_set_ne (Ne.symm h1)]
          by_cases h2 : j = g
          · subst h2
            rw [List.getElem?_set_self (by simpa using hgl), List.getElem?_set_self (by simpa using hgl)]
          · rw [List.getElem?_set_ne (Ne.symm h2), List.getElem?_set_ne (Ne.symm h2), List.getElem?_set_ne (Ne.symm h1), List.getElem?_set_ne (Ne.symm h1)]
      rw [ed] at sd
      refine corE fk hξ E0' ex sd ?_
      rw [hx]
      intro w S3 H3 X f3 ox rx
      obtain ⟨rfl, ox⟩ := Own.ofZ (H' := H3) x w X zx ox
      have a3 := a2.grow f3
      have lg := Owns.length _ _ _ g4
      refine ⟨q, us, w, rfl, rfl, f3.hp _ _ g2, by omega, ?_⟩
      obtain ⟨q', us', C1, C2, C4, k1, k2, k3, k4, k5, k6⟩ := Owns.item _ _ _ n es (ow3.fut f3) ca gx
      rw [ey] at k1
      cases k1
      rw [f3.hp _ _ g2] at k2
      cases k2
      have qne : q ≠ q0 := fun z => nd3.1 (by rw [← z, g3]; simp)
      have es2 : (eachN x n ds).set n (.lst .o (es ++ [x])) = eachN x (n + 1) ds := by
        rw [← eachN_set hlt, hes]
        have : appO (.lst .o es) x = some (.lst .o (es ++ [x])) := by unfold appO; simp [hel]
        rw [this]; rfl
      have nd4 : ((q0 :: C1) ++ (q :: C2) ++ C4).Nodup := by
        have := a2.sta.nd i
        rw [hA3, k3] at this
        simpa using this
      have qC : q ∉ C2 := by
        simp only [List.append_assoc, List.nodup_append, List.cons_append, List.nodup_cons, List.mem_append, List.mem_cons] at nd4
        exact fun z => nd4.2.2.1.1 (.inl z)
      have ixn : ixN (eachN x n ds).length (n : Int) = some n := by
        have hll : (eachN x n ds).length = ds.length := by simp [eachN]; omega
        unfold ixN
        rw [hll, if_pos (by omega), if_pos (by omega)]; rfl
      have so : ∀ e2 : D, setO (.lst .o (eachN x n ds)) [.int n] e2 = .lst .o ((eachN x n ds).set n e2) := fun e2 => by
        show putO (.lst .o (eachN x n ds)) (.int n) e2 = _
        unfold putO
        simp only [ixn]
      have cs : cleans (es ++ [x]) = true := cleans_snoc _ _ g5 (isZ_clean x zx)
      have ch := a3.change (path := [.int n]) (A1 := q0 :: C1) (A2 := C4) (B := C2) (B' := C2) (u := .ref q) (q := q) (e' := .lst .o (es ++ [x])) (o := .lst (us ++ [w])) hi' hv2 (by rw [hA3, k3]; simp)
        (fun S2 H2 e2 B2 s2 kk o2 => by
          rw [so]
          refine ⟨q0, vs, C1 ++ B2 ++ C4, rfl, by simp, (kk q0 (by simp)).trans (f3.hp _ _ hq'), k6 S2 H2 e2 B2 s2 (fun p hp => kk p (by simp at hp ⊢; rcases hp with hp | hp <;> simp [hp])) o2⟩)
        ⟨q, us ++ [w], C2, rfl, rfl, upd_same, by
          have := Owns.append es us C2 [x] [w] [] (Owns.keep (Same.refl S3) (H' := upd H3 q (.lst (us ++ [w]))) _ _ _ (.inl g5) (fun p hp => upd_ne (by rintro rfl; exact qC hp)) k4) (Owns.one (Own.ofZ x w [] zx ox).2)
          simpa using this⟩
        (by rw [so]; simp only [clean, Bool.and_eq_true]; exact ⟨by decide, cleans_set _ _ _ ca (by simp [clean, cs])⟩) nd4 (fun p hp hb => absurd hp hb)
      rw [so, es2] at ch
      have ee : ((env.set i (some (.lst .o (eachN x n ds)))).set g none).set i (some (.lst .o (eachN x (n + 1) ds))) = (env.set i (some (.lst .o (eachN x (n + 1) ds)))).set g none := by
        refine List.ext_getElem? fun j => ?_
        by_cases h1 : j = i
        · subst h1
          rw [List.getElem?_set_self (by simpa using hil), List.getElem?_set_ne hgi, List.getElem?_set_self hil]
        · rw [List.getElem?_set_ne (Ne.symm h1)]
          by_cases h2 : j = g
          · subst h2
            rw [List.getElem?_set_self (by simpa using hgl), List.getElem?_set_self (by simpa using hgl)]
          · rw [List.getElem?_set_ne (Ne.symm h2), List.getElem?_set_ne (Ne.symm h2), List.getElem?_set_ne (Ne.symm h1), List.getElem?_set_ne (Ne.symm h1)]
      rw [ee] at ch
      exact ⟨hlt, hv2, by rw [upd_ne (Ne.symm qne)]; exact f3.hp _ _ hq', S3, _, ch⟩
    · have e : n = ds.length := by omega
      subst e
      refine .inl ⟨⟨vs, hq2, by omega⟩, ?_⟩
      have en : eachN x ds.length ds = ds.map fun t => (appO t x).getD t := by simp [eachN]
      rw [en] at a'
      exact k _ _ _ _ a'
  | .sfld i c n e, E, K, Φ, fk, hξ, hX, ns, L, S, H, σ, env, As, Dn, a, k => by
    simp only [evS] at k
    refine corE fk hξ (kE E) e a.sta (k.bind a.fut.hp fun d _ k => ?_)
    intro v S1 H1 X f ox rx
    obtain ⟨o, hi, k⟩ := get_ok k
    cases o <;> try exact k.elim
    rename_i fl c' ks ds
    cases fl <;> try exact k.elim
    change Kont XR E He (if (decide (c' = c) && clean d && decide (ks.length < 1000)) = true then R.ok (Out.nx (env.set i (some (.obj .o c (putKs ks n) (putDs ks ds n d))))) else R.st) _ at k
    split at k
    rotate_left
    · exact k.elim
    rename_i h
    simp only [Bool.and_eq_true, decide_eq_true_eq] at h
    obtain ⟨⟨rfl, cx⟩, hl⟩ := h
    have a1 := a.grow f
    obtain ⟨w, hw, ow⟩ := a1.sta.val i _ hi
    obtain ⟨p, dx, vs, B', rfl, hA, hp, hdx, kl, ows⟩ := ow
    have cd := a.cln i _ hi
    have cds : cleans ds = true := by simpa [clean] using cd
    obtain ⟨B1, B2, B3, rfl, fput⟩ := Owns.putV (q := n) kl ows
    obtain ⟨_, z2⟩ := putK_zip (q := n) (x := v) kl
    have nd := a1.sta.nd i
    rw [hA] at nd
    have xAs : ∀ q ∈ X, ∀ j, q ∉ As j := fun q hq j => fresh_dj a.sta rx (j + 1) q hq j (by omega)
    have ndp := List.nodup_cons.mp nd
    have ndx := List.nodup_cons.mp ndp.2
    have pX : ∀ q ∈ X, q ≠ p := fun q hq z => xAs q hq i (by rw [hA, z]; simp)
    refine ⟨_, hw, p, dx, _, rfl, hp, by rw [List.length_zip]; omega, ?_⟩
    rw [putF_zip kl]
    refine k _ _ _ _ (a1.change (path := []) (A1 := []) (A2 := []) (B := dx :: (B1 ++ B2 ++ B3)) (B' := dx :: (B1 ++ X ++ B3)) (u := .ref p) (q := p) (e' := .obj .o c' (putKs ks n) (putDs ks ds n d)) hi hw (by rw [hA]; simp) (fun S2 H2 e2 B2 _ _ o2 => by simpa [setO] using o2) ?_ ?_ ?_ ?_)
    · refine ⟨p, dx, _, B1 ++ X ++ B3, rfl, rfl, upd_same, (upd_ne (fun z => ndp.1 (by rw [z]; simp))).trans hdx, z2, fput S1 _ d v X (Same.refl _) cds (fun q hq => upd_ne (fun z => ndp.1 (by rw [← z]; simp at hq ⊢; rcases hq with hq | hq <;> simp [hq]))) ?_⟩
      exact Own.keep (Same.refl _) _ _ _ (.inl cx) (fun q hq => upd_ne (pX q hq)) ox
    · simp only [setO, clean, Bool.and_eq_true]
      exact ⟨by decide, cleans_putDs cds cx⟩
    · have e1 : p :: dx :: (B1 ++ B2 ++ B3) = (p :: dx :: B1) ++ B2 ++ B3 := by simp
      have := nd_ins (e1 ▸ nd) rx.nd fun q hq z => xAs q hq i (by rw [hA, e1]; exact z)
      simpa using this
    · intro q hq hb
      have hqX : q ∈ X := by
        simp only [List.mem_cons, List.mem_append, not_or] at hq hb
        rcases hq with h | (h | h) | h
        · exact absurd h hb.1
        · exact absurd h hb.2.1.1
        · exact h
        · exact absurd h hb.2.2
      exact ⟨Same.none a.fut.hp (rx.new q hqX).1, (rx.new q hqX).2, fun j _ => xAs q hqX j⟩
  | .raise c f es, E, K, Φ, fk, hξ, hX, ns, L, S, H, σ, env, As, Dn, a, k => by
    simp only [evS] at k
    refine corA fk hξ (kE E) es a.sta (k.bind a.fut.hp fun ds _ k => ?_)
    intro vs S1 H1 B1 f1 o1 r1
    split at k
    rotate_left
    · exact k.elim
    rename_i hg
    simp only [Bool.and_eq_true, decide_eq_true_eq] at hg
    obtain ⟨⟨hn, hfl⟩, hle⟩ := hg
    obtain ⟨ws, hws⟩ := Option.isSome_iff_exists.mp hfl
    have ev := flats_val hws o1
    subst ev
    have ll := Owns.length _ _ _ o1
    obtain ⟨o, hs, k⟩ := noEx_bindK k
    cases o <;> try exact k.elim
    rename_i fl c' ks es'
    cases fl <;> try exact k.elim
    change Kont XR E He (if (decide (c' = c) && (flats es').isSome && decide (ks.length = es'.length)) = true then R.ex ⟨c, ks, es'⟩ else R.st) _ at k
    split at k
    rotate_left
    · exact k.elim
    rename_i h
    simp only [Bool.and_eq_true, decide_eq_true_eq] at h
    obtain ⟨⟨rfl, hfe⟩, hkl⟩ := h
    obtain ⟨us, hus⟩ := Option.isSome_iff_exists.mp hfe
    have lus := Owns.length _ _ _ (flats_own (K := K.k) (S := S1) (H := H1) hus)
    refine ⟨by omega, fun p hp => ⟨by simp; omega, p, vs, H1, ds, ks, es', us, by simp, hp, rfl, hws, hs, hus, by omega, fun H' d sm ha hd hn => ⟨rfl, d, _, ha, hd, hn, ?_⟩⟩⟩
    have sm2 : Same H1 (upd (del H' p) d (.xd (ks.zip us))) := fun b u e => by
      have hbd : b ≠ d := fun z => by rw [z, hn] at e; cases e
      have hbp : b ≠ p := fun z => by rw [z, hp] at e; cases e
      rw [upd_ne hbd, del_ne hbp]
      exact sm b u e
    have hs1 : Same He H1 := a.fut.hp.trans f1.hp
    refine k _ _ _ (hs1.trans sm2) ⟨⟨by rw [hX], .inr ⟨d, us, rfl, upd_same, hus, (by show ks.length = us.length; omega)⟩⟩, fun dd e => ?_⟩
    cases e
    exact Same.none hs1 hn
  | .tryx b i c h, E, K, Φ, fk, hξ, hX, ns, L, S, H, σ, env, As, Dn, a, k => by
    simp only [evS] at k
    refine corB fk hξ _ b a ?_
    cases hb : evB Φ b env with
    | st => rw [hb] at k; exact k.elim
    | ok o =>
      rw [hb] at k
      cases o with
      | nx e =>
        intro S2 H2 he _ a2
        subst he
        exact k _ _ _ _ a2
      | rt d => exact k
      | bk e => (rcases evB_out hb with ⟨_, z⟩ | ⟨_, z⟩ <;> cases z)
      | ct e => (rcases evB_out hb with ⟨_, z⟩ | ⟨_, z⟩ <;> cases z)
    | ex x =>
      rw [hb] at k
      intro v od H' sm hxr
      obtain ⟨hq, hfr⟩ := hxr
      rw [hX] at hq
      have ev : v = .ref (_root_.He.ga K.k.K x.c) := hq.1
      cases hs : Φ.xsub x.c c with
      | none => simp only [hs] at k; exact k.elim
      | some bb =>
        obtain ⟨x1, x2, x3⟩ := fk.exc _ _ _ hs
        refine ⟨bb, by rw [ev]; exact x1, fun e a' na => ?_, fun e => ?_⟩
        · subst e
          simp only [hs] at k
          split at k
          rotate_left
          · exact k.elim
          rename_i hg
          simp only [Bool.and_eq_true, decide_eq_true_eq] at hg
          have st2 : ∀ b, some b = od → S b = none := fun b e => Same.none a.sta.sub (hfr b e.symm)
          let S2 : Hp := fun b => if some b = od then H' b else S b
          have fu : Fut S H S2 H' := by
            refine ⟨sm, fun b u e => ?_, fun b u e => ?_, fun b u e => ?_⟩
            · show (if some b = od then H' b else S b) = some u
              by_cases h : some b = od
              · rw [st2 b h] at e; cases e
              · rw [if_neg h]; exact e
            · have e : (if some b = od then H' b else S b) = some u := e
              split at e
              · exact e
              · exact sm _ _ (a.sta.sub _ _ e)
            · have e : (if some b = od then H' b else S b) = some u := e
              split at e
              · rename_i h; exact .inr (.inl (hfr b h.symm))
              · exact .inl e
          have hi0 : K.slf = none ∨ i ≠ 0 := ns.imp id fun z => by simp only [okS, Bool.and_eq_true, decide_eq_true_eq] at z; exact z.1
          have a2 := a.grow fu
          have hd2 : Hd ⟨⟨K.k.K, ⟨a', v, od⟩⟩, some x, K.slf⟩ S2 := fun y e => by
            cases e
            refine ⟨hq.1, hq.2.imp id fun ⟨dd, vs, e1, e2, e3, e4⟩ => ⟨dd, vs, e1, ?_, e3, e4⟩⟩
            show (if some dd = od then H' dd else S dd) = _
            rw [if_pos e1.symm]; exact e2
          have a3 := a2.requ (K' := ⟨⟨K.k.K, ⟨a', v, od⟩⟩, some x, K.slf⟩) rfl hg.1 hd2 rfl
          have a4 := a3.store (i := i) (d := .xcp) (v := .ref a') (B := []) hg.2 rfl ⟨rfl, rfl⟩ .nil (fun _ z => nomatch z) hi0
          have a5 : At ⟨⟨K.k.K, ⟨a', v, od⟩⟩, some x, K.slf⟩ Se He S2 S2 H' _ _ _ := ⟨a4.anc, a4.sta, a4.fut, Same.refl _, a4.new, a4.cln⟩
          refine corSs h (fun _ _ _ => False) (K := ⟨⟨K.k.K, ⟨a', v, od⟩⟩, some x, K.slf⟩) (Φ := Φ.ht x) ⟨fk.isb, fk.isc, fk.exc⟩ rfl hX (ns.imp id fun z => by simp only [okS, Bool.and_eq_true] at z; exact z.2) a5 ?_
          cases ho : evSs (Φ.ht x) h (env.set i (some .xcp)) with
          | st => rw [ho] at k; exact k.elim
          | ex y => rw [ho] at k; exact k.elim
          | ok o =>
            rw [ho] at k
            cases o with
            | nx e =>
              change Kont XR E He (if noXE (e.set i none) = true then R.ok (Out.nx (e.set i none)) else R.st) _ at k
              split at k
              rotate_left
              · exact k.elim
              rename_i hn
              intro σ6 S6 H6 As6 a6
              have a7 := (a6.drop i).overN (no_set e i) hi0
              exact k _ _ _ _ ((a7.requ (K' := K) rfl hn ((a.sta.hx.same fu.st).same a6.low) rfl).lower a2.low)
            | rt d =>
              change Kont XR E He (if noX d = true then R.ok (Out.rt d) else R.st) _ at k
              split at k
              rotate_left
              · exact k.elim
              rename_i hn
              intro v6 S6 H6 B6 f6 o6 r6
              exact k v6 S6 H6 B6 f6 (Own.requ (K := ⟨K.k.K, ⟨a', v, od⟩⟩) (q := K.k.q) d v6 _ hn o6) r6
            | bk e => exact k.elim
            | ct e => exact k.elim
        · subst e
          simp only [hs] at k
          refine k _ _ _ (a.fut.hp.trans sm) ⟨by rw [hX]; exact hq, fun dd e => Same.none a.fut.hp (hfr dd e)⟩
theorem corSs : ∀ (ss : Ss) (E : XK) {K : Kz} {Φ : Tab} (fk : FK K.k.K Φ) (hξ : Φ.ξ = K.x) (hX : XR = K.k.K) (ns : K.slf = none ∨ okSs ss = true) {L S H : Hp} {σ : St} {env : Env} {As : Nat → List Addr} {Dn : Ends}, At K Se He L S H σ env As → Kont XR E He (evSs Φ ss env) (KO K Se He L Dn) → tSs K XR Φ.fd (kE E) ss Dn σ H
  | .nil, E, K, Φ, fk, hξ, hX, ns, L, S, H, σ, env, As, Dn, a, k => k _ _ _ _ a
  | .cons s ss, E, K, Φ, fk, hξ, hX, ns, L, S, H, σ, env, As, Dn, a, k => by
    simp only [evSs, R.nx] at k
    refine corS s E fk hξ hX (ns.imp id fun z => by simp only [okSs, Bool.and_eq_true] at z; exact z.1) a (k.bind (Same.refl _) fun o _ k => ?_)
    cases o with
    | nx e => exact fun σ S H As a => corSs ss E fk hξ hX (ns.imp id fun z => by simp only [okSs, Bool.and_eq_true] at z; exact z.2) a k
    | rt d => exact k
    | bk e => exact k
    | ct e => exact k
end
end EV
namespace EV
open PySem PySem.Spec PyProof.Rows L2
variable {X : Cx}
/-! ### the operations' rules -/
theorem opBin (op : BinK) : ∀ o : Operator, (match op with | .add => o = .Add | .sub => o = .Sub | .mul => o = .Mult | .fdiv => o = .FloorDiv | .mod => o = .Mod | .pow => o = .Pow | .xor => o = .BitXor) → OpR X (binaryOp o) (rBin X.K op) := by
  intro o h
  cases op <;> subst h
  · exact OpR.or op_add (OpR.or op_add_str (OpR.or op_cat op_catA))
  · exact op_sub
  · exact OpR.or op_mul op_rep
  · exact op_fdiv
  · exact op_mod
  · exact op_pow
  · exact op_xor
theorem op_dIn (hu : X.A.units + 1 < cLine) : OpR X (compareOp .In) (rDIn false) := by
  intro pins s σ H x y v u Q I rx ry h
  obtain ⟨a, o, rfl, g, q⟩ := h
  cases ry
  exact d_in hu I g rx fun s2 I2 => ⟨.bl o.isSome, H, I2, rfl, q⟩
theorem op_dNotIn (hu : X.A.units + 1 < cLine) : OpR X (compareOp .NotIn) (rDIn true) := by
  intro pins s σ H x y v u Q I rx ry h
  obtain ⟨a, o, rfl, g, q⟩ := h
  cases ry
  exact d_notIn hu I g rx fun s2 I2 => ⟨.bl (!o.isSome), H, I2, rfl, q⟩
theorem opCmp (hu : X.A.units + 65 < cLine) (op : CmpK) : ∀ o : CmpOp, (match op with | .eq => o = .Eq | .ne => o = .NotEq | .lt => o = .Lt | .le => o = .LtE | .gt => o = .Gt | .ge => o = .GtE | .isin => o = .In | .notin => o = .NotIn) → OpR X (compareOp o) (rCmp X.K op) := by
  intro o h
  cases op <;> subst h
  · exact op_eqD (by omega)
  · exact op_neD (by omega)
  · exact op_lt
  · exact op_le
  · exact op_gt
  · exact op_ge
  · exact OpR.or (op_inD hu) (op_dIn (by omega))
  · exact OpR.or (op_notInD hu) (op_dNotIn (by omega))
theorem ixA (hu : X.A.units + 1 < cLine) : IxR X (rIxA X.K) := by
  refine ix_list.or (ix_tup.or ?_)
  intro ev es pins s τ G x y vx vy Q I rx ry q hs
  obtain ⟨a, w, rfl, g, q⟩ := q
  cases rx
  exact PyProof.Rows.tail_any (dict_typeIs I g) PySem.F.slot_dict_getitem.lookup (d_getItem hu I g ry fun w' s3 I3 rw' => ⟨w, G, I3, rw', q⟩) hs
theorem slA : SlR X (rSlA X.K) := sl_list.or sl_tup
theorem getA (hu : X.A.units + 1 < cLine) : PGet X (fun o i H Q => rIxA X.K o i H Q) := by
  intro pins s τ G x y vx vy Q I rx ry q
  rcases q with q | q | q
  · obtain ⟨p, xs, i, z, rfl, rfl, hq, he, q⟩ := q
    cases rx
    obtain ⟨tk, rfl⟩ := ry
    obtain ⟨its, r, pl, _⟩ := I.list hq
    obtain ⟨j, k1, k2, k3, k4, k5⟩ := atI_get he
    obtain ⟨w, ew, rw2⟩ := r.get k2
    have ll := r.length
    have big := line63
    have done : EP X pins τ Q w s := ⟨z, G, I, rw2, q⟩
    have li : s.heap.IsList p its.toArray := pl.isList
    have small := (by assumption : xs.length ≤ sizeLine)
    by_cases pos : 0 ≤ i
    · have ej : i.toNat = j := by
        have e := k1
        rw [seqIndex_of pos k5] at e
        exact Option.some.inj e
      exact wpAny_getItem_list li pos (by omega) (by rw [ej]; simpa using ew) done
    · have ej : (i + (its.toArray.size : Int)).toNat = j := by
        have e := k1
        rw [seqIndex_neg (by omega) k4] at e
        rw [List.size_toArray, ← ll]
        exact Option.some.inj e
      exact wpAny_getItem_list_neg li (by omega) (by rw [List.size_toArray]; omega) (by omega) (by rw [ej]; simpa using ew) done
  · obtain ⟨p, xs, i, z, rfl, rfl, hq, he, q⟩ := q
    cases rx
    obtain ⟨tk, rfl⟩ := ry
    obtain ⟨its, r, pl, _⟩ := I.tuple hq
    obtain ⟨j, k1, k2, k3, k4, k5⟩ := atI_get he
    obtain ⟨w, ew, rw2⟩ := r.get k2
    have ll := r.length
    have big := line63
    have small := (by assumption : xs.length ≤ sizeLine)
    exact getItem_tuple (j := j) pl (by omega) (by omega) (by rw [List.size_toArray, ← ll]; exact k1) (by simpa using ew) ⟨z, G, I, rw2, q⟩
  · obtain ⟨a, w, rfl, g, q⟩ := q
    cases rx
    exact d_getItem hu I g ry fun w' s3 I3 rw' => ⟨w, G, I3, rw', q⟩
theorem putA (hu : X.A.units + 1 < cLine) : PSet X rPut := by
  intro pins s σ H o i v ov iv u Q I r1 r2 r3 h
  rcases h with h | ⟨a, H4, rfl, g, q⟩
  · exact set_list pins s σ H o i v ov iv u Q I r1 r2 r3 h
  · cases r1
    exact d_setItem hu I g r2 r3 fun s2 I2 => ⟨H4, I2, q⟩
/-- a loop over a list or a tuple -/
theorem pi_seq {tg l : Expr} {tl : TE} (hl : PE X l tl) : PI X tg l (iSeq X.K tl) := by
  refine ⟨fun pins s τ G R I hw => ?_⟩
  refine thn (hl.run pins s τ G _ I hw) fun v t ⟨x, G1, J, rx, q1⟩ => ?_
  obtain ⟨a, rfl, q⟩ := q1
  cases rx
  have free : ∀ b ∈ [t.heap.objs.size], FpOk X pins G1 b := fun b hb => by
    obtain rfl : b = t.heap.objs.size := List.mem_singleton.mp hb
    exact J.fpOk (Nat.le_refl _) (J.hok.fresh (Nat.le_refl _))
  rcases q with ⟨xs, hq, q⟩ | ⟨xs, hq, q⟩
  · obtain ⟨its, _, p, _⟩ := J.list hq
    refine wpAny_pyIter_list p.isList ⟨t.heap.objs.size, [t.heap.objs.size], _, _, G1, rfl, ?_, turn_list a _, ?_, free, q⟩
    · exact J.kept (t' := t.toks) fun _ _ => Heap.get?_push_of_some _
    · exact ⟨_, Heap.get?_push_size _ rfl, rfl, rfl⟩
  · obtain ⟨its, _, p, _⟩ := J.tuple hq
    refine wpAny_pyIter_tuple (show t.heap.IsTuple a its.toArray from p) ⟨t.heap.objs.size, [t.heap.objs.size], _, _, G1, rfl, ?_, turn_tuple a _, ?_, free, q⟩
    · exact J.kept (t' := t.toks) fun _ _ => Heap.get?_push_of_some _
    · exact ⟨_, Heap.get?_push_size _ rfl, rfl, rfl⟩
/-- name = {.. for ..} on one line, the name a local -/
theorem ps_setDc {i : Nat} {y : Str} {yp : Pos} {ek ev tgt src : Expr} {sco : Scope} {mine : List (Str × Nat)} {cp sp : Pos} {wi : TI} {g : TG} {tk tv : TE} (calm : X.calm = true) (nd : X.N.Nodup) (hy : X.N[i]? = some y)
    (loc : X.env.scope.names.lookup y = some .local) (sw : swapsWith (.DictComp ek ev [⟨tgt, src, [], 0⟩] sco cp) (some (.Name y yp)) sp.line X.env = pure true)
    (hi : PI X tgt src wi) (ok : BlkOk X.N X.env.scope sco mine) (hg : ∀ s H C cl fp, PG (X.blk s H sco (compEnvC sco cl C X.env) fp) tgt g)
    (hk : ∀ s H C cl fp, PE (X.blk s H sco (compEnvC sco cl C X.env) fp) ek tk) (hv : ∀ s H C cl fp, PE (X.blk s H sco (compEnvC sco cl C X.env) fp) ev tv)
    (fi : ∀ x, foldedSetIterable src X.env x = pure x) : PS X (.Assign [.Name y yp] (.DictComp ek ev [⟨tgt, src, [], 0⟩] sco cp) sp) (tAsg (tDc wi g tYes tk tv (mine.map (·.2))) (gName i)) := by
  refine ⟨fun pins s τ G Dn I hw => ?_⟩
  rw [exec_Assign_Name_used _ _ _ _ sw]
  refine wpAny_bind (wpAny_standAt (wpAny_bind (wpAny_bind (thn (dc_core (Qf := fun _ s' => SP X pins Dn .next s') (Q := fun x H1 => gName i x τ H1 Dn.nx)
    (use := some (assign (.Name y yp) X.env)) calm nd I hi ok hg (fun _ _ _ _ _ => pts_nil) hk hv fi hw fun L C s' m H' J q hn f => ?_) fun _ s' z => wpAny_pure (wpAny_pure z)))))
  obtain ⟨f0, f1, f2, f3, f4, f5⟩ := f
  show wpAny _ _ (assign (.Name y yp) X.env (.ref L)) _ _ _
  refine wpAny_assign_Name (store_ok2 (v := V.ref L) J nd hy (.inl loc) rfl (fun s2 J2 ⟨a, sb, ha⟩ => ?_) (.inr loc))
  have apart : C ≠ a := by
    rcases ha with z | z
    · exact fun e => f1 (e.trans z)
    · exact fun e => f4 y a z e.symm
  exact ⟨m, hn.sameBut sb apart, fun h3 sb3 => ⟨_, H', J2.turned (t' := s2.toks) (fun b o hb e => (sb3.2 b hb).trans e) f0 f1 f3 f4 f5, q⟩⟩
end EV
/-! rules: fields, methods, properties, new instances, static methods, ranges as values -/
namespace EV
open PySem PySem.Spec PyProof.Rows L2
theorem meth_tree {o : Expr} {name : Str} {apos pos : Pos} {args : List Expr} {env : PySem.Env} (hbase : attributeBase o name env (eval o env) = eval o env)
    (hfew : methodCallForm (args.length + ([] : List Keyword).length) (backTo pos (starEach args env)) (backToKw pos (keywordEach [] env)) = true) (hline : (apos.endLine == pos.line) = true) :
    eval (.Call (.Attribute o name apos) args [] pos) env = (do
      let ov ← eval o env
      standAt apos.atName
      let (f, first) ← holding [ov] (getMethod ov name (do return (← importBound o env).getD true))
      callWith pos f first (backTo pos (starEach args env)) (backToKw pos (keywordEach [] env))) := by
  have hpos : methodCallPos true o env apos pos = pure pos := by unfold methodCallPos; simp [hline]
  rw [arm_eval_Call, hbase]
  unfold methodCall
  rw [hfew, hpos]
  unfold calleeOf
  simp only [if_true, pure_bind]
theorem form_of {n : Nat} {es : List (Bool × Sem Value)} (h : es.any (·.1) = false) (l : n < 30) : methodCallForm n es [] = true := by
  unfold methodCallForm
  have : es.all (fun x => !x.1) = true := by
    rw [List.all_eq_true]
    intro x hx
    rw [List.any_eq_false] at h
    simpa using h x hx
  simp [this, l]
section
variable {X : Cx} {CX : CXT} {k : Nat} {f C : Addr} {fd : FuncData} {ps : List Str} {sp : Sp} {E : L2.St → XK} {x m n : Str} {p pos apos : Pos} {e o value : Expr} {es : List Expr} {ta tv : TE} {t : TA}
theorem pe_fldC (c : Cls X.K C) (na : NoAttr X.K C n) (he : PE X e ta) (hb : attributeBase e n X.env (eval e X.env) = eval e X.env) : PE X (.Attribute e n pos) (tFldC C n ta) := by
  refine ⟨fun pins s σ H Q I h => ?_⟩
  refine attr_of hb (thn (he.run pins s σ H _ I h) fun u s1 ⟨x, H1, I1, rx, a, dx, fs, v, ex, ea, l, q⟩ => ?_)
  subst ex
  obtain rfl : u = Value.ref a := rx
  exact getattr_ok I1 ea c na l fun u' s2 I2 ru => ⟨v, H1, I2, ru, q⟩
theorem ps_fldC (c : Cls X.K C) (na : NoAttr X.K C n) (ha : PE X o ta) (hv : PE X value tv) (hs : swapsWith value (some (.Attribute o n p)) pos.line X.env = pure false) : PS X (.Assign [.Attribute o n p] value pos) (sFldC C n ta tv) := by
  refine ⟨fun pins s σ H D I h => ?_⟩
  refine plainObj_wpAny_Assign_Attribute (thn (hv.run pins s σ H _ I h) fun u s1 ⟨y, H1, I1, ry, q⟩ => thn (ha.run pins s1 σ H1 _ I1 q) fun ov s2 ⟨x, H2, I2, rx, a, dx, fs, ex, ea, l, q2⟩ => ?_) hs
  subst ex
  obtain rfl : ov = Value.ref a := rx
  exact setattr_ok I2 ea c na l ry fun s3 I3 => ⟨σ, _, I3, q2⟩
theorem pe_methS {pl : Sem Bool} (he : PE X o ta) (c : Cls X.K C) (hm : Meth X.K C m f) (F : FnOk X.prog X.w X.K X.mg X.base CX k f fd ps sp) (hr : Room k X.A) (hb : Binds X.K fd ps []) (hx : ∀ σ, PassesAt CX X σ (E σ)) (ha : PA X (e :: es) t)
    (hst : starEach (e :: es) X.env = (false, eval e X.env) :: starEach es X.env) (hpl : (backTo pos (starEach es X.env)).any (·.1) = false)
    (ht : eval (.Call (.Attribute o m apos) (e :: es) [] pos) X.env = (do
      let ov ← eval o X.env
      standAt apos.atName
      let (f, first) ← holding [ov] (getMethod ov m pl)
      callWith pos f first (backTo pos (starEach (e :: es) X.env)) (backToKw pos (keywordEach [] X.env)))) :
    PE X (.Call (.Attribute o m apos) (e :: es) [] pos) (tMethS C m sp E ta t) := by
  refine ⟨fun pins s σ H Q I h => ?_⟩
  refine PySem.W.methodCall_KW (pl := pl) (thn (he.run pins s σ H _ I h) fun u s1 ⟨x, H1, I1, rx, a, dx, fs, ex, ea, l, q⟩ => ?_) ht
  subst ex
  obtain rfl : u = Value.ref a := rx
  refine getmeth_ok I1 ea c hm l ?_
  refine PySem.W.callWith_K (first := [.ref a]) (h₀ := X.base) I.ok.mod.kin hm.kp (thn (ha.run pos pins s1 σ H1 _ I1 q) fun us s2 ⟨vs, H2, I2, r, q2⟩ => ⟨I2.kIn, ?_⟩) hst hpl
  exact run_fnS (us := .ref a :: us) (vs := .ref a :: vs) F hr hb (hx σ) I2 (.cons rfl r) q2
theorem pe_methS0 {pl : Sem Bool} (he : PE X o ta) (c : Cls X.K C) (hm : Meth X.K C m f) (F : FnOk X.prog X.w X.K X.mg X.base CX k f fd ps sp) (hr : Room k X.A) (hb : Binds X.K fd ps []) (hx : ∀ σ, PassesAt CX X σ (E σ))
    (ht : eval (.Call (.Attribute o m apos) [] [] pos) X.env = (do
      let ov ← eval o X.env
      standAt apos.atName
      let (f, first) ← holding [ov] (getMethod ov m pl)
      callWith pos f first (backTo pos (starEach [] X.env)) (backToKw pos (keywordEach [] X.env)))) :
    PE X (.Call (.Attribute o m apos) [] [] pos) (tMethS C m sp E ta tNil) := by
  refine ⟨fun pins s σ H Q I h => ?_⟩
  refine PySem.W.methodCall_KW (pl := pl) (thn (he.run pins s σ H _ I h) fun u s1 ⟨x, H1, I1, rx, a, dx, fs, ex, ea, l, q⟩ => ?_) ht
  subst ex
  obtain rfl : u = Value.ref a := rx
  refine getmeth_ok I1 ea c hm l ?_
  exact PySem.W.callWith_K0 (first := [.ref a]) I1.kIn hm.kp (run_fnS (us := [.ref a]) (vs := [.ref a]) F hr hb (hx σ) I1 (.cons rfl .nil) q)
theorem run_makeS {pins : List (Addr × Obj)} {σ : L2.St} {H : Hp} {s : Shared} {Q : VK} {us : List Value} {vs : List V} (M : Mk X.K C f) (F : FnOk X.prog X.w X.K X.mg X.base CX k f fd ps sp) (hr : Room (k + 1) X.A) (hb : Binds X.K fd ps [])
    (hx : PassesAt CX X σ (E σ)) (I : Inv X pins σ H s) (r : Vals vs us)
    (h : ∀ x dx, H x = none → H dx = none → dx ≠ x → sp (.ref x :: vs) (upd (upd H dx (.own x)) x (.ins C dx [])) (fun v H2 => v = .non ∧ Q (.ref x) H2) (E σ)) :
    wpAny (model X.prog X.w) X.A (call (.ref C) us) (EP X pins σ Q) X.xe s := by
  have hq := h (s.heap.objs.size + 1) s.heap.objs.size (I.hok.fresh (Nat.le_succ _)) (I.hok.fresh (Nat.le_refl _)) (Nat.ne_of_lt (Nat.lt_succ_self _))
  have I2 := Inv.made (C := C) I
  have r2 : Vals (V.ref (s.heap.objs.size + 1) :: vs) (Value.ref (s.heap.objs.size + 1) :: us) := .cons rfl r
  have hl : ((Value.ref (s.heap.objs.size + 1) :: us) ++ []).length = ps.length := by
    have e := r2.length
    rw [F.len _ _ _ _ hq] at e
    rw [List.append_nil]
    exact e.symm
  have b := hb { s with heap := (s.heap.push PySem.W.emptyDict).push (PySem.W.instObj C s.heap.objs.size) } (Value.ref (s.heap.objs.size + 1) :: us) I2.kIn hl
  rw [List.append_nil] at b
  refine wpAny_call (make_map (f := f) I.kIn M.makes M.init (beq_iff_eq.mp M.fn) (codeAny_mono (F.run _ X.stack _ _ ⟨Value.ref (s.heap.objs.size + 1) :: us, []⟩ (Value.ref (s.heap.objs.size + 1) :: us) _ _ (E σ) (hr.make C us [])
    (I2.env0.make C us []) b r2 hq) fun r s' hq' => ?_))
  cases r with
  | error e => exact hx pins _ _ e s' I2 hq'
  | ok fl =>
    cases fl with
    | ret u =>
      obtain ⟨v, H', I3, rv, ev, q3⟩ := I2.after hq'
      subst ev
      exact ⟨rv, ⟨V.ref (s.heap.objs.size + 1), H', I3, rfl, q3⟩⟩
    | next => exact False.elim hq'
    | brk => exact False.elim hq'
    | cont => exact False.elim hq'
theorem pe_makeS (M : Mk X.K C f) (F : FnOk X.prog X.w X.K X.mg X.base CX k f fd ps sp) (hr : Room (k + 1) X.A) (hg : Gl X x) (hm : X.mg x = some (.ref C)) (hb : Binds X.K fd ps []) (hx : ∀ σ, PassesAt CX X σ (E σ))
    (ha : PA X (e :: es) t) (hdb : (x == ("__debug__" : Str)) = false) (he : starEach (e :: es) X.env = (false, eval e X.env) :: starEach es X.env) (hpl : (backTo pos (starEach es X.env)).any (·.1) = false) :
    PE X (.Call (.Name x p) (e :: es) [] pos) (tMakeS C sp E t) := by
  refine ⟨fun pins s σ H Q I h => ?_⟩
  refine wpAny_Call_Name_kw (ld_glob I hg hm ?_ hdb)
  refine PySem.W.callWith_K (h₀ := X.base) I.ok.mod.kin M.kp (thn (ha.run pos pins s σ H _ I h) fun us s1 ⟨vs, H1, I1, r, q⟩ => ⟨I1.kIn, ?_⟩) he hpl
  exact run_makeS M F hr hb (hx σ) I1 r q
theorem pe_makeS0 (M : Mk X.K C f) (F : FnOk X.prog X.w X.K X.mg X.base CX k f fd ps sp) (hr : Room (k + 1) X.A) (hg : Gl X x) (hm : X.mg x = some (.ref C)) (hb : Binds X.K fd ps []) (hx : ∀ σ, PassesAt CX X σ (E σ))
    (hdb : (x == ("__debug__" : Str)) = false) : PE X (.Call (.Name x p) [] [] pos) (tMakeS C sp E tNil) := by
  refine ⟨fun pins s σ H Q I h => ?_⟩
  refine wpAny_Call_Name_kw (ld_glob I hg hm ?_ hdb)
  exact PySem.W.callWith_K0 I.kIn M.kp (run_makeS (us := []) M F hr hb (hx σ) I .nil h)
theorem pe_propS {g pr : Addr} (he : PE X e ta) (c : Cls X.K C) (hp : PropOf X.K C n pr g) (F : FnOk X.prog X.w X.K X.mg X.base CX k g fd ps sp) (hr : Room (k + 1) X.A) (hb : Binds X.K fd ps []) (cx0 : ∀ outer H s e s', CX outer H s (fun _ _ _ => False) e s' → False)
    (hab : attributeBase e n X.env (eval e X.env) = eval e X.env) : PE X (.Attribute e n pos) (tPropS C sp ta) :=
  pe_prop (dvs := []) (E := fun _ _ _ => False) he c hp F hr hb .nil (fun _ _ _ _ _ _ _ h => cx0 _ _ _ _ _ h) hab
/-! static methods -/
structure SmF (K : PySem.W.Frag) (C : Addr) (m : Str) (p f : Addr) : Prop where
  rd : ClX.CRead K C (.type "type")
  at_ : PySem.W.findCls K (.ref C) (.type "type") m = some (.get (.builtin "staticmethod.__get__") (.ref p) .none (.ref C))
  rc : ∃ rest, PySem.W.recIn K p "staticmethod" = some (.ref f :: rest)
  kp : PySem.W.keepIn K (.ref f) = true
theorem pe_smS {pr : Addr} {pl : Sem Bool} (sm : SmF X.K C m pr f) (hg : Gl X x) (hm : X.mg x = some (.ref C)) (F : FnOk X.prog X.w X.K X.mg X.base CX k f fd ps sp) (hr : Room k X.A) (hb : Binds X.K fd ps []) (hx : ∀ σ, PassesAt CX X σ (E σ)) (ha : PA X (e :: es) t)
    (hdb : (x == ("__debug__" : Str)) = false) (hst : starEach (e :: es) X.env = (false, eval e X.env) :: starEach es X.env) (hpl : (backTo pos (starEach es X.env)).any (·.1) = false)
    (ht : eval (.Call (.Attribute (.Name x p) m apos) (e :: es) [] pos) X.env = (do
      let ov ← eval (.Name x p) X.env
      standAt apos.atName
      let (f, first) ← holding [ov] (getMethod ov m pl)
      callWith pos f first (backTo pos (starEach (e :: es) X.env)) (backToKw pos (keywordEach [] X.env)))) :
    PE X (.Call (.Attribute (.Name x p) m apos) (e :: es) [] pos) (tCallS sp E t) := by
  refine ⟨fun pins s σ H Q I h => ?_⟩
  obtain ⟨rest, hrc⟩ := sm.rc
  refine PySem.W.methodCall_KW (pl := pl) (ld_glob I hg hm ?_ hdb) ht
  refine PySem.W.method_cls I.kIn sm.rd.ga (PySem.W.cls_bind I.kIn sm.rd.rd sm.at_ (wpAny_call (PySem.W.sm_get I.kIn hrc (PySem.W.handed_on rfl ?_))))
  have I1 := I.tok (s.toks + 1)
  refine PySem.W.callWith_K (first := []) (h₀ := X.base) I.ok.mod.kin sm.kp (thn (ha.run pos pins _ σ H _ I1 h) fun us s2 ⟨vs, H2, I2, r, q2⟩ => ⟨I2.kIn, ?_⟩) hst hpl
  exact run_fnS F hr hb (hx σ) I2 r q2
end
/-! ranges as values -/
section
variable {X : Cx}
theorem cr_range1 : CallR X (.type "range") (fun vs H Q => ∃ j, vs = [V.int j] ∧ ∀ p, H p = none → Q (.ref p) (upd H p (.rng 0 j))) := by
  intro pins s σ H vs us Q I r h
  obtain ⟨j, rfl, q⟩ := h
  obtain ⟨u1, rfl, ri⟩ := vals1 r
  obtain ⟨t, rfl⟩ := ri
  refine call_range_1 ⟨.ref s.heap.objs.size, upd H s.heap.objs.size (.rng 0 j), I.laid (t' := s.toks + 1 + 1) (fun b o e => Heap.get?_push_of_some _ e) (Nat.le_refl _) ?_, rfl, q _ (I.hok.fresh (Nat.le_refl _))⟩
  exact ⟨_, _, _, Heap.get?_push_size _ rfl⟩
end
end EV
/-! isinstance of a handled error that has fields; ranges; names of classes -/
namespace EV
open PySem PySem.Spec PyProof.Rows L2
open PySem.W in
/-- the class of an own error's instance, whatever its dict -/
theorem own_class {prog : Program} {w : World} {A : Around} {E : Value → Shared → Prop} {K : Frag} {x D : Addr} {ox od : Obj} {s : Shared} {Q : Option Value → Shared → Prop} (C : ExcC K D) (X : K.In s.heap) (I : InstAt s.heap x ox D (some od))
    (h : Q (some (.ref D)) { s with toks := s.toks + 1 }) : wpAny (model prog w) A (getAttr? (.ref x) "__class__") Q E s := by
  have hc : (clsIn K D).isSome = true := by
    obtain ⟨cd, hc, _⟩ := any_some C.hd
    rw [hc]; rfl
  obtain ⟨hp, g, d, t, os⟩ := s
  have ty := I.type (M := model prog w)
  have found := looks_find (M := model prog w) X I (findObj_data hc C.ha C.hn C.ht)
  have sub : Looks (model prog w) hp (isInstance (.ref x) (.type "BaseException")) true := ty.andThen (looks_subIn X C.hs)
  have noObj : (Value.builtin "BaseException.__getattribute__" == Value.builtin "object.__getattribute__") = false := by decide +kernel
  have n1 : (onTheHeap (Value.ref D) && Value.builtin "BaseException.__getattribute__" == Value.builtin "object.__getattribute__") = false := by rw [noObj]; rfl
  have n0 : (false && onTheHeap (Value.builtin "BaseException.__getattribute__")) = false := rfl
  unfold getAttr? getAttrBy? getAttrBy
  refine wpAny_bind (wpAny_mkText (wpAny_bind (wpAny_attempt (wpAny_holding (wpAny_bind (ty.at (wpAny_bind ((looks_findIn X C.hg).at ?_))))))))
  show wpAny _ _ (if (onTheHeap (Value.ref D) && Value.builtin "BaseException.__getattribute__" == Value.builtin "object.__getattribute__") = true then _ else _) _ _ _
  rw [n1, if_neg Bool.false_ne_true]
  unfold getAttrByItsOwn hookBefore
  refine wpAny_bind ?_
  rw [if_pos (show onTheHeap (Value.ref D) = true from rfl)]
  refine (looks_findIn X C.hk).at (wpAny_bind (wpAny_attempt (wpAny_holding ?_)))
  unfold callGetattribute
  rw [n0, if_neg Bool.false_ne_true]
  unfold boundAndCalled
  rw [PySem.F.excAttr_ValueError.ga.bind (.ref x)]
  refine wpAny_bind (wpAny_pure ?_)
  show wpAny _ _ (call (.builtin "BaseException.__getattribute__") [.ref x, .str "__class__" t]) _ _ _
  refine wpAny_call (codeAny_call_builtin PySem.F.excAttr_ValueError.ga.plain PySem.F.entry_bexc_ga ?_)
  refine @check_slot (model prog w) _ _ ⟨hp, g, d, t + 1, os⟩ "BaseException.__getattribute__" "BaseException" "__getattribute__" (.ref x) [.str "__class__" t] [] _ (by decide +kernel) (by decide +kernel) sub (PySem.F.args_bexc_ga (.ref x) (.str "__class__" t)) ?_
  unfold Builtin.«object.__getattribute__»
  refine wpAny_bind (wpAny_of_eq (a := ((Value.ref x : Value), [Value.str "__class__" t])) (by first | rfl | (simp only [slotArgs]; rfl)) ?_)
  refine wpAny_bind (wpAny_pure (wpAny_bind (ty.at (wpAny_bind (found.at ?_)))))
  show wpAny _ _ (holding [Value.builtin "object.__class__"] (call (.builtin "getset_descriptor.__get__") [.builtin "object.__class__", .ref x, .ref D]) >>= ret) _ _ _
  refine wpAny_bind (wpAny_holding (wpAny_call (class_get (s := ⟨hp, g, d, t + 1, os⟩) (ox := ox) (od := some od) X I C.hm ?_)))
  refine wpAny_pure ?_
  show wpAny _ _ (handedOut (.ref D)) _ _ _
  rw [handedOut_of (v := .ref D) rfl]
  first
    | exact wpAny_pure (wpAny_pure h)
    | exact wpAny_pure h
    | exact wpAny_pure (wpAny_bind (wpAny_pure (wpAny_pure h)))
open PySem.W in
theorem kit_own {K : Frag} {x D : Addr} {ox od : Obj} (C : ExcC K D) : KitX K (.ref x) (.ref D) (fun h => InstAt h x ox D (some od)) := by
  have base := handS_kitx_exc (x := x) (ox := ox) C.hg C.hk C.hs C.hd C.ha C.hn C.ht C.hm
  exact { ty := fun _ _ _ I => I.type, it := fun _ _ X _ => by
            obtain ⟨cd, hc, _⟩ := any_some C.hd
            unfold clsIn at hc
            split at hc
            · rename_i ho
              exact fun A' Q' E' s' k q => by
                unfold isType loadHead
                exact wpAny_bind (wpAny_loadPart (k _ _ (X _ _ ho)) (wpAny_pure q))
            · cases hc
          ne := base.ne, ca := fun X I k => own_class C X I k }
theorem call_isX {X : Cx} {oe : Obj} {pn : List (Addr × Obj)} {q : XQ} {c : Str} (hz : Zc q.cls q.d oe) (hf : ∃ vs, oe.data = .fields vs) : CallR (X.suite q.a ((q.a, oe) :: pn)) (.builtin "isinstance") (rIsX X.K q c) := by
  intro pins s σ H xs us Q I r h
  obtain ⟨D, b, rfl, ec, C, hd, e, h⟩ := h
  obtain ⟨u, w', rfl, ru, rw'⟩ := vals2 r
  obtain rfl : u = Value.ref q.a := ru
  have ew : w' = clsU X.K c := by
    unfold clsV at rw'
    unfold clsU
    split at rw' <;> rename_i hc
    · rw [if_pos hc]; exact rw'
    · rw [if_neg hc]; exact rw'
  subst ew
  obtain ⟨hget, _⟩ := I.pin (q.a, oe) (List.mem_append.mpr (.inl List.mem_cons_self))
  obtain ⟨vs, hv⟩ := hf
  have hcls : oe.cls = .ref D := hz.1.trans ec
  have hdict := hz.2
  rcases hd with hd | ⟨dd, fs, hd, hx, _⟩
  · have J : PySem.W.InstAt s.heap q.a oe D none := ⟨hget, hcls, (by unfold PySem.W.notCls; rw [hv] <;> rfl), by rw [hdict, hd]; trivial⟩
    exact PySem.W.kia_one (PySem.W.handS_kitx_exc C.hg C.hk C.hs C.hd C.ha C.hn C.ht C.hm) I.kIn J e (fun z => nomatch z) fun tk => ⟨.bl b, H, I.kept (t' := tk) fun _ _ z => z, rfl, h⟩
  · have hx : ObjOk X.prog X.w H s.heap dd (.xd fs) := I.hok dd _ hx
    obtain ⟨mA, hns, _⟩ := hx
    obtain ⟨od, ho, _⟩ := lookIn_ns hns
    have J : PySem.W.InstAt s.heap q.a oe D (some od) := ⟨hget, hcls, (by unfold PySem.W.notCls; rw [hv] <;> rfl), by rw [hdict, hd]; exact ho⟩
    exact PySem.W.kia_one (kit_own C) I.kIn J e (fun z => nomatch z) fun tk => ⟨.bl b, H, I.kept (t' := tk) fun _ _ z => z, rfl, h⟩
section
variable {X : Cx}
theorem op_rIn : OpR X (compareOp .In) (rInR false) := fun pins s σ H x y v u Q I rx ry ⟨i, a, lo, hi, h1, h2, h3, h4⟩ => op_in_rng pins s σ H x y v u Q I rx ry ⟨i, a, lo, hi, h1, h2, h3, by simpa using h4⟩
theorem op_rNotIn : OpR X (compareOp .NotIn) (rInR true) := by
  intro pins s σ H x y v u Q I rx ry h
  obtain ⟨i, a, lo, hi, rfl, rfl, ha, q⟩ := h
  obtain ⟨k, rfl⟩ := rx
  obtain rfl : u = Value.ref a := ry
  obtain ⟨t1, t2, t3, ho⟩ := I.hok a _ ha
  show wpAny _ _ (do return Value.bool !(← contains (Value.ref a) (Value.int i k))) _ _ s
  refine wpAny_bind (wpAny_contains_slot (T := "range") ⟨_, ho, rfl⟩ F.slot_range_contains (call_meets F.slot_range_contains ⟨_, ho, rfl⟩ F.entry_range_contains (F.args_range_contains_2 _ _) (q_contains a lo hi i t1 t2 t3 k)
    ⟨ho, wpAny_truthy_bool (wpAny_pure ⟨.bl _, H, I, rfl, ?_⟩)⟩))
  rw [place1]
  simpa using q
theorem tRng1 {tb : TE} : tRng tNoPart tb = tCB (fun vs H Q => ∃ j, vs = [V.int j] ∧ ∀ p, H p = none → Q (.ref p) (upd H p (.rng 0 j))) (tCons tb tNil) := by
  funext σ H Q
  simp [tRng, tCB, tCons, tNil, tNoPart]
/-- a value that must be an int -/
theorem pe_asInt {e : Expr} {t : TE} (h : PE X e t) : PE X e (fun σ H Q => t σ H fun x H' => ∃ i, x = .int i ∧ Q x H') := by
  refine ⟨fun pins s σ H Q I hw => thn (h.run pins s σ H _ I hw) fun u s1 ⟨x, H1, I1, rx, i, _, q⟩ => ⟨x, H1, I1, rx, q⟩⟩
theorem tRng2 {ta tb : TE} : tRng (tPart ta) tb = tCB (fun vs H Q => ∃ i j, vs = [V.int i, V.int j] ∧ ∀ p, H p = none → Q (.ref p) (upd H p (.rng i j))) (tCons (fun σ H Q => ta σ H fun x H' => ∃ i, x = .int i ∧ Q x H') (tCons tb tNil)) := by
  funext σ H Q
  have key : ∀ (i : Int), (fun (y : V) (H2 : Hp) => ∃ j, y = .int j ∧ ∀ p, H2 p = none → Q (.ref p) (upd H2 p (.rng i j))) = fun (y : V) (H2 : Hp) => ∃ i' j, [V.int i, y] = [V.int i', V.int j] ∧ ∀ p, H2 p = none → Q (.ref p) (upd H2 p (.rng i' j)) := fun i => by
    funext y H2
    refine propext ⟨?_, ?_⟩
    · rintro ⟨j, rfl, h⟩
      exact ⟨i, j, rfl, h⟩
    · rintro ⟨i', j, e, h⟩
      cases e
      exact ⟨j, rfl, h⟩
  have outer : (fun (x : V) (H1 : Hp) => ∃ i, x = .int i ∧ tb σ H1 fun y H2 => ∃ j, y = .int j ∧ ∀ p, H2 p = none → Q (.ref p) (upd H2 p (.rng i j))) = fun (x : V) (H1 : Hp) => ∃ i, x = .int i ∧ tb σ H1 fun y H2 => ∃ i' j, [x, y] = [V.int i', V.int j] ∧ ∀ p, H2 p = none → Q (.ref p) (upd H2 p (.rng i' j)) := by
    funext x H1
    refine propext ⟨?_, ?_⟩
    · rintro ⟨i, rfl, h⟩
      exact ⟨i, rfl, by rw [key] at h; exact h⟩
    · rintro ⟨i, rfl, h⟩
      exact ⟨i, rfl, by rw [key]; exact h⟩
  exact congrArg (ta σ H) outer
end
end EV
/-! an own error made for a raise, its context told as none; what a def of a text may let out -/
namespace EV
open PySem PySem.Spec PyProof.Rows L2
theorem endN {X : Cx} {pins : List (Addr × Obj)} {σ : L2.St} {H1 H2 : Hp} {Q : XK} {hp hp2 h2 : Heap} {g1 g2 : Array GenState} {d1 d2 : Drawn} {t1 t2 : Nat} {os1 os2 : OsState} {a C d : Addr} {fs : List (Str × V)} (T : Raises X (.ref C)) (I1 : L2.Inv X pins σ H1 ⟨hp, g1, d1, t1, os1⟩)
    (ha : hp.objs.size ≤ a) (k : ∀ b o, hp.get? b = some o → hp2.get? b = some o) (un : Un (frs X.stack) [] (upd H1 a (exo a C none)) H2 hp2 h2) (hok : HOk X.prog X.w H2 h2) (ho : os2 = os1) (hb : AllBare g2)
    (ea : H2 a = some (exo a C (some d))) (ed : H2 d = some (exd d fs)) (hd1 : H1 d = none) (q : Q (.ref C) (some d) (upd (del H2 a) d (.xd fs))) : L2N.MkP X pins σ Q (.ref a) ⟨h2, g2, d2, t2, os2⟩ := by
  obtain ⟨t0, G, J, kG, ge, hoe, na⟩ := mk_end0 (d2 := d2) (t2 := t2) I1 ha k un hok ho hb ea ed hd1
  exact ⟨a, _, _, ⟨G, g2, d2, t2, os2⟩, _, .ref C, some d, rfl, J, kG, ge, hoe, ⟨rfl, rfl, fun vs e => by cases e; rfl⟩, rfl, rfl, na, rfl, hb, T, q⟩
/-- C(e, ..), an own error with an own __init__ -/
theorem pmk_N {X : Cx} {CX : CXT} {x : Str} {e : Expr} {es : List Expr} {ta : TA} {p pos : Pos} {C fI : Addr} {k : Nat} {fd : FuncData} {ps : List Str} {sp : Sp} (T : OexC X.K C) (iC : PySem.W.findIn X.K (.ref C) "__init__" = some (some (.ref fI))) (tI : PySem.W.typeIn X.K (.ref fI) = some (.type "function"))
    (F1 : FnOk X.prog X.w X.K X.mg X.base CX k fI fd ps sp) (hr : Room (k + 1) X.A) (hb : Binds X.K fd ps []) (cx0 : ∀ outer H s e s', CX outer H s (fun _ _ _ => False) e s' → False) (hg : Gl X x) (hm : X.mg x = some (.ref C)) (ha : PA X (e :: es) ta)
    (hdb : (x == ("__debug__" : Str)) = false) (he : starEach (e :: es) X.env = (false, eval e X.env) :: starEach es X.env) (hpl : (backTo pos (starEach es X.env)).any (·.1) = false) :
    L2N.PMk X (.Call (.Name x p) (e :: es) [] pos) (tMkO C sp [] ta) := by
  intro pins s σ H Q I h
  obtain ⟨nm, q, N, bs, bm, sn, sub, ab, col, dd, k0, k1, k2, k3, k5, hC, hbm⟩ := T.cls
  refine wpAny_Call_Name_kw (ld_glob I hg hm ?_ hdb)
  refine PySem.W.callWith_K (h₀ := X.base) I.ok.mod.kin T.kC (thn (ha.run pos pins s σ H _ I h) fun us s1 ⟨vs, H1, I1, r1, hz, q1⟩ => ⟨I1.kIn, ?_⟩) he hpl
  show wpAny _ _ (call (.ref C) us) _ _ _
  obtain ⟨hp, g, dr, tk, os⟩ := s1
  have hsz : hp.objs.size ≤ hp.objs.size + 1 := Nat.le_succ _
  have hq := q1 (hp.objs.size + 1) (I1.hok.fresh hsz)
  rw [List.append_nil] at hq
  have kk : ∀ b o, hp.get? b = some o → ((hp.push (PySem.W.kdv_tup us)).push (PySem.HandSPX.excO C hp.objs.size)).get? b = some o := fun b o e => Heap.get?_push_of_some _ (Heap.get?_push_of_some _ e)
  have hget : ((hp.push (PySem.W.kdv_tup us)).push (PySem.HandSPX.excO C hp.objs.size)).get? (hp.objs.size + 1) = some (PySem.HandSPX.excO C hp.objs.size) := by heap_get
  have I2 : L2.Inv X pins σ (upd H1 (hp.objs.size + 1) (exo (hp.objs.size + 1) C none)) ⟨(hp.push (PySem.W.kdv_tup us)).push (PySem.HandSPX.excO C hp.objs.size), g, dr, tk, os⟩ :=
    I1.laid (t' := tk) (a := hp.objs.size + 1) (o := exo (hp.objs.size + 1) C none) (h' := (hp.push (PySem.W.kdv_tup us)).push (PySem.HandSPX.excO C hp.objs.size)) kk hsz (exo_ok hget)
  have r2 : Vals (V.ref (hp.objs.size + 1) :: vs) (Value.ref (hp.objs.size + 1) :: us) := .cons rfl r1
  have hl : ((Value.ref (hp.objs.size + 1) :: us) ++ []).length = ps.length := by
    have e := r2.length
    rw [F1.len _ _ _ _ hq] at e
    rw [List.append_nil]
    exact e.symm
  have hus : us.length ≤ sizeLine := by
    rw [← Paired.length r1, sizeLine_eq]
    omega
  have b2 := hb _ (Value.ref (hp.objs.size + 1) :: us) I2.kIn hl
  rw [List.append_nil] at b2
  refine wpAny_call (PySem.HandSPX.call_own F.excBase_ValueError (fun Y => PySem.HandSPX.refsVE_contains Y bm hbm) (I1.kIn _ _ hC) (PySem.W.looks_findIn I1.kIn iC) (fun self => PySem.W.bind_fn I1.kIn self tI) hus
    (codeAny_mono (F1.run _ X.stack _ _ ⟨Value.ref (hp.objs.size + 1) :: us, []⟩ (Value.ref (hp.objs.size + 1) :: us) _ _ (fun _ _ _ => False) (hr.make C us []) (I2.env0.make C us []) b2 r2 hq) fun r s' hq' => ?_))
  cases r with
  | error er => exact (cx0 _ _ _ _ _ hq').elim
  | ok fl =>
    cases fl with
    | ret u =>
      obtain ⟨v, H2, os2, bare2, un2, hok2, rv, ev, d, fs, ea, ed, hd1, q2⟩ := hq'
      subst ev
      obtain ⟨h2, g2, d2, t2, os'⟩ := s'
      exact ⟨rv, endN (raises_own T.exC T.tyC) I1 hsz kk un2 hok2 os2 bare2 ea ed hd1 q2⟩
    | next => exact False.elim hq'
    | brk => exact False.elim hq'
    | cont => exact False.elim hq'
theorem cx0N {P : Program} {w : World} (outer : List PySem.Env) (H : Hp) (s : Shared) (e : Value) (s' : Shared) (h : L2N.CX P w outer H s (fun _ _ _ => False) e s') : False := by
  obtain ⟨_, _, _, _, _, _, _, _, _, _, _, _, z⟩ := h
  exact z
end EV
namespace EV
open PySem PySem.Spec PyProof.Rows L2
/-! ### does the skeleton say what stands in the text? -/
def binIs : BinK → Operator → Bool
  | .add, .Add => true | .sub, .Sub => true | .mul, .Mult => true | .fdiv, .FloorDiv => true | .mod, .Mod => true | .pow, .Pow => true | .xor, .BitXor => true
  | _, _ => false
def cmpIs : CmpK → CmpOp → Bool
  | .eq, .Eq => true | .ne, .NotEq => true | .lt, .Lt => true | .le, .LtE => true | .gt, .Gt => true | .ge, .GtE => true | .isin, .In => true | .notin, .NotIn => true
  | _, _ => false
def bkName : BK → Str
  | .len => "len" | .abs => "abs" | .int => "int" | .list => "list" | .tuple => "tuple" | .sorted => "sorted"
def isSet : Expr → Bool
  | .Set _ _ _ => true | _ => false
def isStar : Expr → Bool
  | .Starred _ _ => true | _ => false
def plainTest : Expr → Bool
  | .UnaryOp .Not _ _ => false | .BoolOp _ _ _ => false | .IfExp _ _ _ _ => false | .Compare _ _ _ _ => false
  | _ => true
def isTup : Expr → Bool
  | .Tuple _ _ _ => true | _ => false
def isComp : Expr → Bool
  | .ListComp _ _ _ _ => true | .SetComp _ _ _ _ => true | .DictComp _ _ _ _ _ => true | _ => false
def visB (sc : Scope) (x : Str) : Bool := decide (sc.names.lookup x = some .local) || decide (sc.names.lookup x = some .cell) || decide (sc.names.lookup x = some .free)
def glB (sc : Scope) (x : Str) : Bool := decide (sc.names.lookup x = some .globalImplicit)
def nmB (x : Str) : Bool := !(x == ("__debug__" : Str)) && !(x == ("__classdict__" : Str))
def stB (blk : Bool) (sc : Scope) (x : Str) : Bool := decide (sc.names.lookup x = some .local) || (!blk && decide (sc.names.lookup x = some .cell))
def tyB (t : String) (x : Str) : Bool := (decide (t = "int") && decide (x = ("int" : Str))) || (decide (t = "bool") && decide (x = ("bool" : Str))) || (decide (t = "list") && decide (x = ("list" : Str))) || (decide (t = "tuple") && decide (x = ("tuple" : Str))) || (decide (t = "str") && decide (x = ("str" : Str)))
/-- how a class's def is reached: a plain one, a property's getter, a static one -/
inductive MK where
  | p | g | s
  deriving DecidableEq
/-- what is known of the text's classes -/
inductive Fk where
  | fld (c n : Str) | make (c : Str) | prop (c n : Str) | meth (c n : Str) | stat (c n : Str) | con (c n : Str) (i : Int)
  | inc (c : Str) | eqc (c : Str) | nec (c : Str) | cls (c : Str) | xfl (c n : Str) | rai (c : Str)
  deriving DecidableEq
/-- where a piece stands: in a def, in a def that a suite calls, in an except suite -/
inductive Md where
  | c | h | x
  deriving DecidableEq
/-- the names of the table's defs: functions, methods, __init__s of classes, __init__s of errors; those that suites may call; the classes' facts -/
structure Nm where
  fn : Nat → Option Str
  mt : Nat → Option (MK × Str × Str)
  ini : Nat → Option Str
  xi : Nat → Option Str
  hot : Nat → Bool
  fc : List Fk
def Nm.has (nm : Nm) (f : Fk) : Bool := decide (f ∈ nm.fc)
def notCall : Expr → Bool
  | .Call _ [] _ _ => false
  | _ => true
section
variable (N : List Str) (nm : Nm) (md : Md)
def slotB (sc : Scope) (i : Nat) (x : Str) : Bool := decide (N[i]? = some x) && visB sc x && nmB x
def tgN (blk : Bool) (sc : Scope) (i : Nat) : Expr → Bool
  | .Name x _ => decide (N[i]? = some x) && stB blk sc x
  | _ => false
def tgNs (blk : Bool) (sc : Scope) : List Nat → List Expr → Bool
  | [], [] => true
  | i :: is, e :: es => tgN N blk sc i e && tgNs blk sc is es
  | _, _ => false
def chTg (blk : Bool) (sc : Scope) : Tg → Expr → Bool
  | .name i, e => tgN N blk sc i e
  | .tup is, .Tuple es _ _ => tgNs N blk sc is es
  | _, _ => false
def ownN (own : List Nat) : List (Str × Nat) := own.map fun i => (N.getD i "", i)
mutual
def chE : C → Scope → Expr → Bool
  | .slot i, sc, .Name x _ => slotB N sc i x
  | .non, _, .Constant .none _ _ => true
  | .bl b, _, .Constant (.bool c) _ _ => decide (b = c)
  | .int i, _, .Constant (.int j) _ _ => decide (i = j)
  | .str s, _, .Constant (.str t) _ _ => decide (s = t)
  | .bin op a b, sc, .BinOp l o r _ => binIs op o && chE a sc l && chE b sc r
  | .neg a, sc, .UnaryOp .USub e _ => chE a sc e
  | .cmp op a b, sc, .Compare l [o] [r] _ => cmpIs op o && chE a sc l && chE b sc r && !isSet r
  | .chain op op' a b c, sc, .Compare l [o, o'] [m, r] _ => cmpIs op o && cmpIs op' o' && chE a sc l && chE b sc m && chE c sc r && !isSet m && !isSet r
  | .isN false a, sc, .Compare l [.Is] [.Constant .none _ _] _ => chE a sc l
  | .isN true a, sc, .Compare l [.IsNot] [.Constant .none _ _] _ => chE a sc l
  | .and (.cons c cs), sc, .BoolOp .And (e :: es) _ => chE c sc e && chL cs sc es
  | .or (.cons c cs), sc, .BoolOp .Or (e :: es) _ => chE c sc e && chL cs sc es
  | .not a, sc, .UnaryOp .Not e _ => chE a sc e
  | .ite c a b, sc, .IfExp t x y _ => chT c sc t && chE a sc x && chE b sc y
  | .tup es, sc, .Tuple xs _ _ => chL es sc xs
  | .lst es, sc, .List xs _ => chL es sc xs
  | .dic, _, .Dict [] [] _ => true
  | .dit, _, .Dict [] [] _ => true
  | .dic1 a b, sc, .Dict ks vs _ => (match ks, vs with
    | [some x], [y] => chE a sc x && chE b sc y
    | _, _ => false)
  | .ix a b, sc, .Subscript x y _ => chE a sc x && chE b sc y
  | .cut a lo hi, sc, .Subscript x (.Slice l h none _) _ => chE a sc x && chO lo sc l && chO hi sc h
  | .blt b a, sc, .Call (.Name x _) [e] [] _ => (decide (md = .c) || decide (b ≠ .sorted)) && decide (x = bkName b) && glB sc x && chE a sc e
  | .isi ty a, sc, .Call (.Name x _) [e, .Name t _] [] _ => decide (x = ("isinstance" : Str)) && glB sc x && tyB ty t && glB sc t && chE a sc e
  | .call f es, sc, .Call (.Name x _) xs [] _ => (decide (md = .c) || nm.hot f) && decide (nm.fn f = some x) && glB sc x && nmB x && chL es sc xs
  | .comp it tg own c e, sc, .ListComp elt [⟨t, iter, ifs, ia⟩] scope _ => decide (md = .c) && decide (ia = 0) && chI it sc t iter && blkC N sc scope (ownN N own) && chTg N true (relS scope sc) tg t && chTo c (relS scope sc) ifs && chE e (relS scope sc) elt
  | .dcomp it tg own k e, sc, .DictComp kx vx [⟨t, iter, [], ia⟩] scope _ => decide (md = .c) && decide (ia = 0) && chI it sc t iter && blkC N sc scope (ownN N own) && chTg N true (relS scope sc) tg t && chE k (relS scope sc) kx && chE e (relS scope sc) vx
  | .sset it tg own e, sc, .Call (.Name x _) [.SetComp elt [⟨t, iter, [], ia⟩] scope _] [] _ => decide (md = .c) && decide (x = ("sorted" : Str)) && glB sc x && (decide (ia = 0) && chI it sc t iter && blkC N sc scope (ownN N own) && chTg N true (relS scope sc) tg t && chE e (relS scope sc) elt)
  | .mn a b, sc, .Call (.Name x _) [e, e'] [] _ => decide (md = .c) && decide (x = ("min" : Str)) && glB sc x && chE a sc e && chE b sc e'
  | .flt c i t, sc, .ListComp elt [⟨tg, iter, [ifx], ia⟩] scope _ => decide (md = .c) && decide (ia = 0) && chE c sc iter && blkC N sc scope (ownN N [i]) && tgN N true (relS scope sc) i tg && chT t (relS scope sc) ifx && (match elt with
    | .Name x _ => slotB N (relS scope sc) i x
    | _ => false)
  | .fld c n a, sc, .Attribute e m _ => decide (m = n) && nm.has (.fld c n) && notCall e && chE a sc e
  | .ccon c n i, sc, .Attribute (.Name x _) m _ => decide (x = c) && decide (m = n) && nm.has (.con c n i) && glB sc x && nmB x
  | .isC c a, sc, .Call (.Name x _) [e, .Name t _] [] _ => decide (x = ("isinstance" : Str)) && glB sc x && decide (t = c) && glB sc t && nmB t && nm.has (.cls c) && chE a sc e
  | .make c f es, sc, .Call (.Name x _) xs [] _ => decide (md = .c) && decide (x = c) && nm.has (.make c) && decide (nm.ini f = some c) && glB sc x && nmB x && chL es sc xs
  | .prop c n f a, sc, .Attribute e m _ => decide (md = .c) && decide (m = n) && nm.has (.prop c n) && decide (nm.mt f = some (MK.g, c, n)) && notCall e && chE a sc e
  | .meth c n f a es, sc, .Call (.Attribute e m ap) xs [] cp => decide (md = .c) && decide (m = n) && nm.has (.meth c n) && decide (nm.mt f = some (MK.p, c, n)) && notCall e && (ap.endLine == cp.line) && decide (xs.length < 30) && chE a sc e && chL es sc xs
  | .smeth c n f (.cons a es), sc, .Call (.Attribute (.Name x _) m ap) xs [] cp => decide (md = .c) && decide (x = c) && decide (m = n) && nm.has (.stat c n) && decide (nm.mt f = some (MK.s, c, n)) && glB sc x && nmB x && (ap.endLine == cp.line) && decide (xs.length < 30) && chL (.cons a es) sc xs
  | .inO neg c f a b, sc, .Compare l [o] [r] _ => decide (md = .c) && cmpIs (if neg then .notin else .isin) o && nm.has (.inc c) && decide (nm.mt f = some (MK.p, c, ("__contains__" : Str))) && chE a sc l && chE b sc r && !isSet r
  | .eqO n c f a b, sc, .Compare l [o] [r] _ => decide (md = .c) && cmpIs (if n then .ne else .eq) o && nm.has (if n then .nec c else .eqc c) && decide (nm.mt f = some (MK.p, c, ("__eq__" : Str))) && chE a sc l && chE b sc r && !isSet r
  | .inR neg a .none hi, sc, .Compare l [o] [.Call (.Name x _) [e] [] _] _ => cmpIs (if neg then .notin else .isin) o && decide (x = ("range" : Str)) && glB sc x && chE a sc l && chE hi sc e
  | .inR neg a (.some lo) hi, sc, .Compare l [o] [.Call (.Name x _) [e, e'] [] _] _ => cmpIs (if neg then .notin else .isin) o && decide (x = ("range" : Str)) && glB sc x && chE a sc l && chE lo sc e && chE hi sc e'
  | .isX c i, sc, .Call (.Name x _) [.Name y _, .Name t _] [] _ => decide (md = .x) && decide (x = ("isinstance" : Str)) && glB sc x && slotB N sc i y && decide (t = c) && glB sc t && nmB t && (decide (c = ("ValueError" : Str)) || nm.has (.cls c))
  | .xfld c n i, sc, .Attribute (.Name y _) m _ => decide (md = .x) && slotB N sc i y && decide (m = n) && nm.has (.xfl c n)
  | _, _, _ => false
def chL : Cs → Scope → List Expr → Bool
  | .nil, _, [] => true
  | .cons c cs, sc, e :: es => chE c sc e && chL cs sc es
  | _, _, _ => false
def chO : Co → Scope → Option Expr → Bool
  | .none, _, none => true
  | .some c, sc, some e => chE c sc e
  | _, _, _ => false
def chTo : To → Scope → List Expr → Bool
  | .none, _, [] => true
  | .some t, sc, [e] => chT t sc e
  | _, _, _ => false
def chT : T → Scope → Expr → Bool
  | .v c, sc, e => plainTest e && chE c sc e
  | .b (.cmp op a b), sc, .Compare l [o] [r] _ => cmpIs op o && chE a sc l && chE b sc r && !isSet r
  | .b (.chain op op' a b c), sc, .Compare l [o, o'] [m, r] _ => cmpIs op o && cmpIs op' o' && chE a sc l && chE b sc m && chE c sc r && !isSet m && !isSet r
  | .b (.isN false a), sc, .Compare l [.Is] [.Constant .none _ _] _ => chE a sc l
  | .b (.isN true a), sc, .Compare l [.IsNot] [.Constant .none _ _] _ => chE a sc l
  | .b (.inO neg c f a b), sc, .Compare l [o] [r] _ => decide (md = .c) && cmpIs (if neg then .notin else .isin) o && nm.has (.inc c) && decide (nm.mt f = some (MK.p, c, ("__contains__" : Str))) && chE a sc l && chE b sc r && !isSet r
  | .b (.eqO n c f a b), sc, .Compare l [o] [r] _ => decide (md = .c) && cmpIs (if n then .ne else .eq) o && nm.has (if n then .nec c else .eqc c) && decide (nm.mt f = some (MK.p, c, ("__eq__" : Str))) && chE a sc l && chE b sc r && !isSet r
  | .b (.inR neg a .none hi), sc, .Compare l [o] [.Call (.Name x _) [e] [] _] _ => cmpIs (if neg then .notin else .isin) o && decide (x = ("range" : Str)) && glB sc x && chE a sc l && chE hi sc e
  | .not t, sc, .UnaryOp .Not e _ => chT t sc e
  | .and (.cons t ts), sc, .BoolOp .And (e :: es) _ => chT t sc e && chTs ts sc es
  | .or (.cons t ts), sc, .BoolOp .Or (e :: es) _ => chT t sc e && chTs ts sc es
  | _, _, _ => false
def chTs : Ts → Scope → List Expr → Bool
  | .nil, _, [] => true
  | .cons t ts, sc, e :: es => chT t sc e && chTs ts sc es
  | _, _, _ => false
def chI : It → Scope → Expr → Expr → Bool
  | .r1 a, sc, _, .Call (.Name x _) [e] [] _ => decide (x = ("range" : Str)) && glB sc x && chE a sc e
  | .r2 a b, sc, _, .Call (.Name x _) [e, e'] [] _ => decide (x = ("range" : Str)) && glB sc x && chE a sc e && chE b sc e'
  | .seq c, sc, _, e => chE c sc e
  | .enum c, sc, tg, .Call (.Name x _) [e] [] _ => decide (x = ("enumerate" : Str)) && glB sc x && chE c sc e && isTup tg
  | _, _, _, _ => false
end
end
theorem chE_star {N : List Str} {nm : Nm} {md : Md} {c : C} {sc : Scope} {e : Expr} (h : chE N nm md c sc e = true) : isStar e = false := by
  cases e <;> first | rfl | (cases c <;> simp [chE] at h)
theorem chE_slice {N : List Str} {nm : Nm} {md : Md} {c : C} {sc : Scope} {e : Expr} (h : chE N nm md c sc e = true) : ∀ l u s p, e ≠ .Slice l u s p := by
  rintro l u s p rfl
  cases c <;> simp [chE] at h
theorem star_of {e : Expr} {es : List Expr} {env : PySem.Env} (h : isStar e = false) : starEach (e :: es) env = (false, eval e env) :: starEach es env := by
  cases e <;> first | rfl | cases h
theorem noStars {N : List Str} {nm : Nm} {md : Md} {sc : Scope} {env : PySem.Env} {pos : Pos} : ∀ {cs : Cs} {es : List Expr}, chL N nm md cs sc es = true → (backTo pos (starEach es env)).any (·.1) = false
  | .nil, [], _ => rfl
  | .cons c cs, e :: es, h => by
    simp only [chL, Bool.and_eq_true] at h
    rw [star_of (chE_star h.1)]
    show (false || (backTo pos (starEach es env)).any (·.1)) = false
    rw [Bool.false_or]
    exact noStars h.2
  | .nil, _ :: _, h => by simp [chL] at h
  | .cons _ _, [], h => by simp [chL] at h
theorem marks {op : CmpOp} {b : Expr} (h : isSet b = false) : behindInMarks op b = false := by
  cases b <;> first | rfl | cases h
theorem plainIx {b : Expr} (h : ∀ l u s p, b ≠ .Slice l u s p) : PlainIx b := by
  intro o i
  cases b <;> first | rfl | exact absurd rfl (h _ _ _ _)
theorem folded {e : Expr} {env : PySem.Env} (h : isSet e = false) (x : Value) : foldedSetIterable e env x = pure x := by
  cases e <;> first | rfl | cases h
end EV
namespace EV
open PySem PySem.Spec PyProof.Rows L2
/-- a class's def -/
def adr (K : PySem.W.Frag) : MK → Str → Str → Addr
  | .p, c, n => He.ma K (He.ga K c) n
  | .g, c, n => (match PySem.W.recIn K (He.ma K (He.ga K c) n) "property" with
    | some (.ref g :: _) => g
    | _ => 0)
  | .s, c, n => (match PySem.W.recIn K (He.ma K (He.ga K c) n) "staticmethod" with
    | some (.ref g :: _) => g
    | _ => 0)
/-- what the classes' facts say -/
def Fk.holds (K : PySem.W.Frag) (mg : Str → Option Value) : Fk → Prop
  | .fld c n => Cls K (He.ga K c) ∧ NoAttr K (He.ga K c) n
  | .make c => mg c = some (.ref (He.ga K c)) ∧ Mk K (He.ga K c) (adr K .p c "__init__")
  | .prop c n => Cls K (He.ga K c) ∧ PropOf K (He.ga K c) n (He.ma K (He.ga K c) n) (adr K .g c n)
  | .meth c n => Cls K (He.ga K c) ∧ Meth K (He.ga K c) n (adr K .p c n)
  | .stat c n => mg c = some (.ref (He.ga K c)) ∧ SmF K (He.ga K c) n (He.ma K (He.ga K c) n) (adr K .s c n)
  | .con c n i => mg c = some (.ref (He.ga K c)) ∧ ClX.CRead K (He.ga K c) (.type "type") ∧ ∃ u, ClX.CVal K (He.ga K c) (.type "type") n (.int i) u
  | .inc c => PySem.W.findIn K (.ref (He.ga K c)) "__contains__" = some (some (.ref (adr K .p c "__contains__"))) ∧ PySem.W.isFn K (.ref (adr K .p c "__contains__")) = true
  | .eqc c => PySem.W.findIn K (.ref (He.ga K c)) "__eq__" = some (some (.ref (adr K .p c "__eq__"))) ∧ PySem.W.isFn K (.ref (adr K .p c "__eq__")) = true ∧ PySem.W.notFirst K (He.ga K c) (.type "tuple") = true
  | .nec c => NeC K (He.ga K c) (adr K .p c "__eq__")
  | .cls c => mg c = some (.ref (He.ga K c)) ∧ c ≠ "ValueError"
  | .xfl c n => XfC K (He.ga K c) ∧ PySem.W.findIn K (.ref (He.ga K c)) n = some none
  | .rai c => mg c = some (.ref (He.ga K c)) ∧ OexC K (He.ga K c) ∧ PySem.W.findIn K (.ref (He.ga K c)) "__init__" = some (some (.ref (adr K .p c "__init__"))) ∧ PySem.W.typeIn K (.ref (adr K .p c "__init__")) = some (.type "function")
abbrev FnN (X : Cx) (k : Nat) (f : Addr) (fd : FuncData) (ps : List Str) (sp : Sp) : Prop := FnOk X.prog X.w X.K X.mg X.base (L2N.CX X.prog X.w) k f fd ps sp
/-- where a text's piece is read: the frame and the tables -/
structure Gd (N : List Str) (nm : Nm) (Φ : Nat → FD) (XR : PySem.W.Frag) (lv : Nat) (md : Md) (E : SX) (blk : Bool) (q : XQ) (sc : Scope) (X : Cx) : Prop where
  eN : X.N = N
  nd : X.N.Nodup
  eS : X.env.scope = sc
  kind : sc.kind = .function
  calm : md = .c → X.calm = true
  room : md = .c → Room lv X.A
  units : X.A.units + 66 < cLine
  hot : md ≠ .c → L2H.RoomH lv X.A ∧ L2H.HotC X
  xq : md = .x → ∃ oe pn X0, X = Cx.suite X0 q.a ((q.a, oe) :: pn) ∧ Zc q.cls q.d oe ∧ ∃ vs, oe.data = .fields vs
  fn : blk = false → ∀ x, X.fn x = true
  own : blk = false → X.stack = X.env :: X.outer ∧ X.env.frame = some X.env.locals
  po : PassesOwn (model X.prog X.w) X.A X.env X.xe
  tk : L2N.Takes X (fun cls d σ H => E σ cls d H)
  bi : ∀ x : Str, x ∈ ([("len" : Str), "abs", "int", "list", "tuple", "sorted", "isinstance", "range", "bool", "str", "min", "ValueError", "enumerate"] : List Str) → X.mg x = none
  fns : ∀ f x, nm.fn f = some x → ∃ a fd ps k, k ≤ lv ∧ (∀ q, FnN X k a fd ps (spF ⟨X.K, q⟩ XR (Φ f).n (Φ f).sem)) ∧ (nm.hot f = true → ∀ q, L2H.FnH X.prog X.w X.K X.mg X.base (L2N.CX X.prog X.w) k a fd ps (spF ⟨X.K, q⟩ XR (Φ f).n (Φ f).sem)) ∧ X.mg x = some (.ref a) ∧ PySem.W.keepIn X.K (.ref a) = true ∧ Binds X.K fd ps []
  mts : ∀ f κ c n, nm.mt f = some (κ, c, n) → ∃ fd ps k, k + 1 ≤ lv ∧ (∀ q, FnN X k (adr X.K κ c n) fd ps (spF ⟨X.K, q⟩ XR (Φ f).n (Φ f).sem)) ∧ Binds X.K fd ps []
  inis : ∀ f c, nm.ini f = some c → ∃ fd ps k, k + 1 ≤ lv ∧ (∀ q, FnN X k (adr X.K .p c "__init__") fd ps (spI ⟨X.K, q⟩ XR c (Φ f).n (Φ f).sem)) ∧ Binds X.K fd ps []
  xis : ∀ f c, nm.xi f = some c → ∃ fd ps k, k + 1 ≤ lv ∧ (∀ q, FnN X k (adr X.K .p c "__init__") fd ps (spX ⟨X.K, q⟩ c (Φ f).n (Φ f).sem)) ∧ Binds X.K fd ps []
  fcs : ∀ f ∈ nm.fc, f.holds X.K X.mg
variable {N : List Str} {nm : Nm} {md : Md} {Φ : Nat → FD} {XR : PySem.W.Frag} {lv : Nat} {E : SX} {blk : Bool} {sc : Scope} {X : Cx} {q : XQ}
theorem takes0N {X : Cx} : L2N.Takes X (fun cls d σ H => E0' σ cls d H) := fun _ _ x => by
  obtain ⟨_, _, _, _, _, _, _, _, _, _, _, _, _, _, _, _, z⟩ := x
  exact z.elim
theorem Gd.pe (g : Gd N nm Φ XR lv md E blk q sc X) : ∀ σ, PassesAt (L2N.CX X.prog X.w) X σ (E σ) := fun σ => L2N.passAt g.tk σ
theorem Gd.fact (g : Gd N nm Φ XR lv md E blk q sc X) {f : Fk} (h : nm.has f = true) : f.holds X.K X.mg := g.fcs f (of_decide_eq_true h)
theorem Gd.block {scope : Scope} (g : Gd N nm Φ XR lv md E blk q sc X) (hc : md = .c) (k : scope.kind = .function) (s : Shared) (H : Hp) (C : Addr) (cl : List (Str × Addr)) (fp : List Addr) :
    Gd N nm Φ XR lv md E0' true q (relS scope sc) (X.blk s H scope (compEnvC scope cl C X.env) fp) :=
  ⟨g.eN, g.nd, by have e := g.eS; subst e; rfl, k, g.calm, g.room, g.units, fun h => absurd hc h, (fun h => by rw [hc] at h; cases h), fun h => (by cases h), fun h => (by cases h), PassesOwn.never, takes0N, g.bi, g.fns, g.mts, g.inis, g.xis, g.fcs⟩
theorem pe_call0S {CX : CXT} {k : Nat} {f : Addr} {fd : FuncData} {ps : List Str} {sp : Sp} {x : Str} {p pos : Pos} (F : FnOk X.prog X.w X.K X.mg X.base CX k f fd ps sp) (hr : Room k X.A) (hg : Gl X x) (hm : X.mg x = some (.ref f)) (hk : PySem.W.keepIn X.K (.ref f) = true) (hb : Binds X.K fd ps [])
    (hx : ∀ σ, PassesAt CX X σ (E σ)) (hdb : (x == ("__debug__" : Str)) = false := by decide) : PE X (.Call (.Name x p) [] [] pos) (tCallS sp E tNil) := by
  refine ⟨fun pins s σ H Q I h => ?_⟩
  refine wpAny_Call_Name_kw (ld_glob I hg hm ?_ hdb)
  exact PySem.W.callWith_K0 I.kIn hk (run_fnS (us := []) F hr hb (hx σ) I .nil h)
theorem Gd.gl {x : Str} (g : Gd N nm Φ XR lv md E blk q sc X) (h : glB sc x = true) : Gl X x := by
  show X.env.scope.names.lookup x = some .globalImplicit
  rw [g.eS]; exact of_decide_eq_true h
theorem Gd.slot {i : Nat} {x : Str} {p : Pos} (g : Gd N nm Φ XR lv md E blk q sc X) (h : slotB N sc i x = true) : PE X (.Name x p) (tVar i) := by
  simp only [slotB, visB, nmB, Bool.and_eq_true, Bool.or_eq_true, decide_eq_true_eq, Bool.not_eq_true'] at h
  obtain ⟨⟨h1, h2⟩, h3, h4⟩ := h
  refine pe_var (by rw [g.eN]; exact h1) ?_ h3 h4
  show X.env.scope.names.lookup x = _ ∨ X.env.scope.names.lookup x = _ ∨ X.env.scope.names.lookup x = _
  rw [g.eS]
  rcases h2 with (h2 | h2) | h2
  · exact .inl h2
  · exact .inr (.inl h2)
  · exact .inr (.inr h2)
theorem Gd.tgN {i : Nat} {e : Expr} (g : Gd N nm Φ XR lv md E blk q sc X) (h : EV.tgN N blk sc i e = true) : PG X e (gName i) := by
  unfold EV.tgN at h
  split at h
  · rename_i x p
    simp only [stB, Bool.and_eq_true, Bool.or_eq_true, decide_eq_true_eq, Bool.not_eq_true'] at h
    obtain ⟨h1, h2⟩ := h
    have hl : Loc X.env.scope x ∧ (X.fn x = true ∨ X.env.scope.names.lookup x = some .local) := by
      rw [g.eS]
      rcases h2 with h2 | ⟨h2, h3⟩
      · exact ⟨.inl h2, .inr h2⟩
      · exact ⟨.inr h3, .inl (g.fn h2 x)⟩
    exact pg_name g.nd (by rw [g.eN]; exact h1) hl.1 hl.2
  · cases h
theorem notStar_tg {i : Nat} {e : Expr} (h : EV.tgN N blk sc i e = true) : ∃ x p, e = .Name x p := by
  unfold EV.tgN at h
  split at h
  · exact ⟨_, _, rfl⟩
  · cases h
theorem Gd.tgNs (g : Gd N nm Φ XR lv md E blk q sc X) : ∀ {is : List Nat} {es : List Expr}, EV.tgNs N blk sc is es = true → PGs X es (gAll is) ∧ (assignEach es X.env).length = is.length ∧ (assignEach es X.env).findIdx? (·.1) = none
  | [], [], _ => ⟨pgs_nil, rfl, rfl⟩
  | i :: is, e :: es, h => by
    simp only [EV.tgNs, Bool.and_eq_true] at h
    obtain ⟨r1, r2, r3⟩ := Gd.tgNs g h.2
    have p := g.tgN h.1
    obtain ⟨x, ps, rfl⟩ := notStar_tg h.1
    refine ⟨pgs_cons p r1 rfl, by show (assignEach es X.env).length + 1 = _; rw [r2]; rfl, ?_⟩
    show List.findIdx? (·.1) ((false, assign (.Name x ps) X.env) :: assignEach es X.env) = none
    rw [List.findIdx?_cons, r3]; rfl
  | [], _ :: _, h => by simp [EV.tgNs] at h
  | _ :: _, [], h => by simp [EV.tgNs] at h
theorem Gd.tg {t : Tg} {e : Expr} (g : Gd N nm Φ XR lv md E blk q sc X) (hc : md = .c) (h : chTg N blk sc t e = true) : PG X e (gT X.K t) := by
  unfold chTg at h
  split at h
  · exact g.tgN h
  · rename_i is es k p
    obtain ⟨r1, r2, r3⟩ := g.tgNs h
    exact pg_tup (g.calm hc) r1 r2 r3
  · cases h
theorem cmp_of {op : CmpK} {o : CmpOp} (g : Gd N nm Φ XR lv md E blk q sc X) (h : cmpIs op o = true) : OpR X (compareOp o) (rCmp X.K op) := by
  refine opCmp (by have := g.units; omega) op o ?_
  cases op <;> cases o <;> first | rfl | cases h
theorem bin_of {op : BinK} {o : Operator} (h : binIs op o = true) : OpR X (binaryOp o) (rBin X.K op) := by
  refine opBin op o ?_
  cases op <;> cases o <;> first | rfl | cases h
theorem and_one {a : Expr} {ta : TE} {pos : Pos} (ha : PE X a ta) : PE X (.BoolOp .And [a] pos) (tAndV ta (tC (.bl true))) := by
  refine ⟨fun pins s τ G Q I hw => BoolOp_one (thn (ha.run pins s τ G _ I hw) fun v s1 ⟨x, G1, J, r, c, e, q⟩ => ⟨x, G1, J, r, ?_⟩)⟩
  subst e
  cases c with
  | true => exact q
  | false => exact q
theorem or_one {a : Expr} {ta : TE} {pos : Pos} (ha : PE X a ta) : PE X (.BoolOp .Or [a] pos) (tOrV ta (tC (.bl false))) := by
  refine ⟨fun pins s τ G Q I hw => BoolOp_one (thn (ha.run pins s τ G _ I hw) fun v s1 ⟨x, G1, J, r, c, e, q⟩ => ⟨x, G1, J, r, ?_⟩)⟩
  subst e
  cases c with
  | true => exact q
  | false => exact q
theorem chain_marks {op op' : CmpOp} {b c : Expr} (h1 : isSet b = false) (h2 : isSet c = false) : lastMarks [op, op'] [b, c] = false := marks h2
theorem ty_of {t : String} {x : Str} {p : Pos} (g : Gd N nm Φ XR lv md E blk q sc X) (h : tyB t x = true) (hg : glB sc x = true) : PE X (.Name x p) (tC (.ty t)) := by
  simp only [tyB, Bool.or_eq_true, Bool.and_eq_true, decide_eq_true_eq] at h
  rcases h with (((⟨rfl, rfl⟩ | ⟨rfl, rfl⟩) | ⟨rfl, rfl⟩) | ⟨rfl, rfl⟩) | ⟨rfl, rfl⟩
  · exact pe_bltn (g.gl hg) (g.bi _ (by decide)) PyProof.Rows.boot_int rfl
  · exact pe_bltn (g.gl hg) (g.bi _ (by decide)) PyProof.Rows.boot_bool rfl
  · exact pe_bltn (g.gl hg) (g.bi _ (by decide)) PyProof.Rows.boot_list rfl
  · exact pe_bltn (g.gl hg) (g.bi _ (by decide)) PyProof.Rows.boot_tuple rfl
  · exact pe_bltn (g.gl hg) (g.bi _ (by decide)) PyProof.Rows.boot_str rfl
theorem blt_of {b : BK} {e : Expr} {t : TE} {p pos : Pos} (g : Gd N nm Φ XR lv md E blk q sc X) (hg : glB sc (bkName b) = true) (he : PE X e t) (hs : isStar e = false) (hm : md = .c ∨ b ≠ .sorted) : PE X (.Call (.Name (bkName b) p) [e] [] pos) (tCB (rB X.K b) (tCons t tNil)) := by
  have pa : PA X [e] (tCons t tNil) := pa_cons he pa_nil (star_of hs)
  cases b with
  | len => exact pe_callB call_len (g.gl hg) (g.bi _ (by decide)) PySem.boot_len pa (he := star_of hs)
  | abs => exact pe_callB call_abs (g.gl hg) (g.bi _ (by decide)) PyProof.Rows.boot_abs pa (he := star_of hs)
  | int => exact pe_callTy call_int1 (g.gl hg) (g.bi _ (by decide)) PyProof.Rows.boot_int pa (he := star_of hs)
  | list => exact pe_callTy call_list_of (g.gl hg) (g.bi _ (by decide)) PyProof.Rows.boot_list pa (he := star_of hs)
  | tuple => exact pe_callTy call_tuple_of (g.gl hg) (g.bi _ (by decide)) PyProof.Rows.boot_tuple pa (he := star_of hs)
  | sorted => exact pe_callB (CallR.or cr_sortedI (call_sortedDI (g.calm (hm.resolve_right fun z => z rfl)))) (g.gl hg) (g.bi _ (by decide)) PyProof.Rows.boot_sorted pa (he := star_of hs)
theorem blkC_kind {scope : Scope} {own : List (Str × Nat)} (h : blkC N sc scope own = true) : scope.kind = .function := (blkOk_by h).kind
theorem ownN_slots (own : List Nat) : (ownN N own).map (·.2) = own := by
  simp [ownN, List.map_map, Function.comp_def]
theorem chE_set {c : C} {e : Expr} (h : chE N nm md c sc e = true) : isSet e = false := by
  cases e <;> first | rfl | (cases c <;> simp [chE] at h)
theorem chI_set {c : EV.It} {tg e : Expr} (h : chI N nm md c sc tg e = true) : isSet e = false := by
  cases c with
  | enum a => cases e <;> first | rfl | simp [chI] at h
  | seq c => exact chE_set (by simpa [chI] using h)
  | r1 a => cases e <;> first | rfl | simp [chI] at h
  | r2 a b => cases e <;> first | rfl | simp [chI] at h
/-- a test that is its value's truth -/
theorem plain_truth {e : Expr} (h : plainTest e = true) (env : PySem.Env) (whole : Sem Value) : isTrue e env whole = (do let v ← whole; standAt e.pos; holding [v] (truthy v)) := by
  cases e <;> first | rfl | (rename_i op _ _; cases op <;> first | rfl | cases h) | cases h
/-- a comparison as a test -/
theorem pt_of_cmp {a b : Expr} {ta tb : TE} {op : CmpOp} {r : R2} {pos : Pos} (ho : OpR X (compareOp op) r) (ha : PE X a ta) (hb : PE X b tb) (hm : isSet b = false) : PT X (.Compare a [op] [b] pos) (tTest (tOp r ta tb)) := pt_cmpR ho ha hb (marks hm)
theorem base_of {e : Expr} (h : notCall e = true) {n : Str} {env : PySem.Env} : attributeBase e n env (eval e env) = eval e env := by
  cases e <;> try rfl
  rename_i f as ks p
  cases as with
  | nil => cases h
  | cons a as => cases f <;> rfl
theorem pe_call0H {CX : CXT} {k : Nat} {f : Addr} {fd : FuncData} {ps : List Str} {sp : Sp} {x : Str} {p pos : Pos} (F : L2H.FnH X.prog X.w X.K X.mg X.base CX k f fd ps sp) (hr : L2H.RoomH k X.A) (hc : L2H.HotC X) (hg : Gl X x) (hm : X.mg x = some (.ref f)) (hk : PySem.W.keepIn X.K (.ref f) = true) (hb : Binds X.K fd ps [])
    (hx : ∀ σ, PassesAt CX X σ (E σ)) (hdb : (x == ("__debug__" : Str)) = false) : PE X (.Call (.Name x p) [] [] pos) (tCallS sp E tNil) := by
  refine ⟨fun pins s σ H Q I h => ?_⟩
  refine wpAny_Call_Name_kw (ld_glob I hg hm ?_ hdb)
  exact PySem.W.callWith_K0 I.kIn hk (L2H.run_fnH (us := []) F hr hc hb (hx σ) I .nil h)
theorem rng_cmp {neg : Bool} {a : Expr} {o : CmpOp} {ta tr : TE} {p : Pos} (h : cmpIs (if neg then .notin else .isin) o = true) (ha : PE X a ta) {f : Expr} {as : List Expr} {ks : List Keyword} {rp : Pos} (hr : PE X (.Call f as ks rp) tr) : PE X (.Compare a [o] [.Call f as ks rp] p) (tOp (rInR neg) ta tr) := by
  cases neg with
  | false =>
    have : o = .In := by cases o <;> first | rfl | cases h
    subst this
    exact pe_cmpR op_rIn ha hr (marks rfl)
  | true =>
    have : o = .NotIn := by cases o <;> first | rfl | cases h
    subst this
    exact pe_cmpR op_rNotIn ha hr (marks rfl)
theorem rng_cmpT {neg : Bool} {a : Expr} {o : CmpOp} {ta tr : TE} {p : Pos} (h : cmpIs (if neg then .notin else .isin) o = true) (ha : PE X a ta) {f : Expr} {as : List Expr} {ks : List Keyword} {rp : Pos} (hr : PE X (.Call f as ks rp) tr) : PT X (.Compare a [o] [.Call f as ks rp] p) (tTest (tOp (rInR neg) ta tr)) := by
  cases neg with
  | false =>
    have : o = .In := by cases o <;> first | rfl | cases h
    subst this
    exact pt_cmpR op_rIn ha hr (marks rfl)
  | true =>
    have : o = .NotIn := by cases o <;> first | rfl | cases h
    subst this
    exact pt_cmpR op_rNotIn ha hr (marks rfl)
theorem in_of {neg : Bool} {c : Str} {f : Nat} {o : CmpOp} (g : Gd N nm Φ XR lv md E blk q sc X) (hc : md = .c) (h1 : cmpIs (if neg then .notin else .isin) o = true) (h2 : nm.has (.inc c) = true) (h3 : nm.mt f = some (MK.p, c, ("__contains__" : Str))) :
    OpR X (compareOp o) (rInOwn (He.ga X.K c) (spF ⟨X.K, q⟩ XR (Φ f).n (Φ f).sem) (fun _ _ _ => False) neg) := by
  obtain ⟨f1, f2⟩ := g.fact h2
  obtain ⟨fd, ps, k, hk, F, b2⟩ := g.mts f _ _ _ h3
  cases neg with
  | false =>
    have : o = .In := by cases o <;> first | rfl | cases h1
    subst this
    exact op_inOwn (F q) f1 f2 ((g.room hc).mono (by omega)) b2 (fun _ _ _ _ _ _ _ h => (cx0N _ _ _ _ _ h).elim)
  | true =>
    have : o = .NotIn := by cases o <;> first | rfl | cases h1
    subst this
    exact op_notInOwn (F q) f1 f2 ((g.room hc).mono (by omega)) b2 (fun _ _ _ _ _ _ _ h => (cx0N _ _ _ _ _ h).elim)
theorem eq_of {n : Bool} {c : Str} {f : Nat} {o : CmpOp} (g : Gd N nm Φ XR lv md E blk q sc X) (hc : md = .c) (h1 : cmpIs (if n then .ne else .eq) o = true) (h2 : nm.has (if n then .nec c else .eqc c) = true) (h3 : nm.mt f = some (MK.p, c, ("__eq__" : Str))) :
    OpR X (compareOp o) (rEqOwn X.K (He.ga X.K c) (spF ⟨X.K, q⟩ XR (Φ f).n (Φ f).sem) (fun _ _ _ => False) n) := by
  obtain ⟨fd, ps, k, hk, F, b2⟩ := g.mts f _ _ _ h3
  cases n with
  | false =>
    obtain ⟨f1, f2, f3⟩ := g.fact h2
    have : o = .Eq := by cases o <;> first | rfl | cases h1
    subst this
    exact op_eqOwn (F q) f1 f2 f3 ((g.room hc).mono (by omega)) b2 (fun _ _ _ _ _ _ _ h => (cx0N _ _ _ _ _ h).elim)
  | true =>
    have T := g.fact h2
    have : o = .NotEq := by cases o <;> first | rfl | cases h1
    subst this
    exact op_neOwn (F q) T ((g.room hc).mono (by omega)) b2 (fun _ _ _ _ _ _ _ h => (cx0N _ _ _ _ _ h).elim)
theorem boot_range : bootBuiltins ("range" : Str) = some (.type "range") := by first | decide +kernel | kernel_rfl
theorem boot_VE : bootBuiltins ("ValueError" : Str) = some (.type "ValueError") := by first | decide +kernel | kernel_rfl
theorem cls_of {c : Str} {p : Pos} (g : Gd N nm Φ XR lv md E blk q sc X) (hg : glB sc c = true) (hd : (c == ("__debug__" : Str)) = false) (h : c = ("ValueError" : Str) ∨ nm.has (.cls c) = true) : PE X (.Name c p) (tC (clsV X.K c)) := by
  by_cases e : c = "ValueError"
  · have e2 : clsV X.K c = .ty "ValueError" := by unfold clsV; rw [if_pos e]
    rw [e2]
    subst e
    exact pe_bltn (g.gl hg) (g.bi _ (by decide)) boot_VE rfl
  · have e2 : clsV X.K c = .ref (He.ga X.K c) := by unfold clsV; rw [if_neg e]
    rw [e2]
    obtain ⟨f1, _⟩ := g.fact (h.resolve_left e)
    exact C8.pe_gc (g.gl hg) ⟨_, f1, rfl⟩ hd
mutual
theorem peE : ∀ (c : C) {sc : Scope} {e : Expr} {E : SX} {blk : Bool} {X : Cx}, Gd N nm Φ XR lv md E blk q sc X → chE N nm md c sc e = true → PE X e (tE ⟨X.K, q⟩ XR Φ E c)
  | .slot i, sc, e, E, blk, X, g, h => by
    cases e <;> try (simp [chE] at h; done)
    simp only [chE] at h
    exact g.slot h
  | .non, sc, e, E, blk, X, g, h => by
    cases e <;> try (simp [chE] at h; done)
    rename_i v k p
    cases v <;> try (simp [chE] at h; done)
    exact pe_non
  | .bl b, sc, e, E, blk, X, g, h => by
    cases e <;> try (simp [chE] at h; done)
    rename_i v k p
    cases v <;> try (simp [chE] at h; done)
    simp only [chE, decide_eq_true_eq] at h
    subst h
    exact pe_bl
  | .int i, sc, e, E, blk, X, g, h => by
    cases e <;> try (simp [chE] at h; done)
    rename_i v k p
    cases v <;> try (simp [chE] at h; done)
    simp only [chE, decide_eq_true_eq] at h
    subst h
    exact pe_int
  | .str z, sc, e, E, blk, X, g, h => by
    cases e <;> try (simp [chE] at h; done)
    rename_i v k p
    cases v <;> try (simp [chE] at h; done)
    simp only [chE, decide_eq_true_eq] at h
    subst h
    exact pe_str
  | .bin op a b, sc, e, E, blk, X, g, h => by
    cases e <;> try (simp [chE] at h; done)
    simp only [chE, Bool.and_eq_true] at h
    exact pe_op (bin_of h.1.1) (peE a g h.1.2) (peE b g h.2)
  | .neg a, sc, e, E, blk, X, g, h => by
    cases e <;> try (simp [chE] at h; done)
    rename_i op v p
    cases op <;> try (simp [chE] at h; done)
    simp only [chE] at h
    exact pe_un un_neg (peE a g h)
  | .cmp op a b, sc, e, E, blk, X, g, h => by
    cases e <;> try (simp [chE] at h; done)
    rename_i l ops cs p
    rcases ops with _ | ⟨o, _ | ⟨o2, ops⟩⟩ <;> rcases cs with _ | ⟨r, _ | ⟨r2, cs⟩⟩ <;> try (simp [chE] at h; done)
    simp only [chE, Bool.and_eq_true, Bool.not_eq_true'] at h
    exact pe_cmpR (cmp_of g h.1.1.1) (peE a g h.1.1.2) (peE b g h.1.2) (marks h.2)
  | .chain op op' a b c, sc, e, E, blk, X, g, h => by
    cases e <;> try (simp [chE] at h; done)
    rename_i l ops cs p
    rcases ops with _ | ⟨o, _ | ⟨o2, _ | ⟨o3, ops⟩⟩⟩ <;> rcases cs with _ | ⟨r, _ | ⟨r2, _ | ⟨r3, cs⟩⟩⟩ <;> try (simp [chE] at h; done)
    simp only [chE, Bool.and_eq_true, Bool.not_eq_true'] at h
    exact pe_chain (cmp_of g h.1.1.1.1.1.1) (cmp_of g h.1.1.1.1.1.2) (peE a g h.1.1.1.1.2) (peE b g h.1.1.1.2) (peE c g h.1.1.2) (chain_marks h.1.2 h.2)
  | .isN n a, sc, e, E, blk, X, g, h => by
    cases e <;> try (cases n <;> simp [chE] at h; done)
    rename_i l ops cs p
    rcases ops with _ | ⟨o, _ | ⟨o2, ops⟩⟩ <;> rcases cs with _ | ⟨r, _ | ⟨r2, cs⟩⟩ <;> try (cases n <;> simp [chE] at h; done)
    cases n
    · cases o <;> try (simp [chE] at h; done)
      cases r <;> try (simp [chE] at h; done)
      rename_i v k p2
      cases v <;> try (simp [chE] at h; done)
      simp only [chE] at h
      exact pe_cmp (pc_isN (peE a g h)) (nobehind _ (by decide) (by decide))
    · cases o <;> try (simp [chE] at h; done)
      cases r <;> try (simp [chE] at h; done)
      rename_i v k p2
      cases v <;> try (simp [chE] at h; done)
      simp only [chE] at h
      exact pe_cmp (pc_notN (peE a g h)) (nobehind _ (by decide) (by decide))
  | .and (.cons c cs), sc, e, E, blk, X, g, h => by
    cases e <;> try (simp [chE] at h; done)
    rename_i op vs p
    cases op <;> try (simp [chE] at h; done)
    cases vs <;> try (simp [chE] at h; done)
    simp only [chE, Bool.and_eq_true] at h
    exact peAnds cs g (peE c g h.1) h.2
  | .or (.cons c cs), sc, e, E, blk, X, g, h => by
    cases e <;> try (simp [chE] at h; done)
    rename_i op vs p
    cases op <;> try (simp [chE] at h; done)
    cases vs <;> try (simp [chE] at h; done)
    simp only [chE, Bool.and_eq_true] at h
    exact peOrs cs g (peE c g h.1) h.2
  | .and .nil, sc, e, E, blk, X, g, h => by simp [chE] at h
  | .or .nil, sc, e, E, blk, X, g, h => by simp [chE] at h
  | .not a, sc, e, E, blk, X, g, h => by
    cases e <;> try (simp [chE] at h; done)
    rename_i op v p
    cases op <;> try (simp [chE] at h; done)
    simp only [chE] at h
    exact pe_not (peE a g h)
  | .ite c a b, sc, e, E, blk, X, g, h => by
    cases e <;> try (simp [chE] at h; done)
    simp only [chE, Bool.and_eq_true] at h
    exact pe_ifExp (peT c g h.1.1) (peE a g h.1.2) (peE b g h.2)
  | .tup es, sc, e, E, blk, X, g, h => by
    cases e <;> try (simp [chE] at h; done)
    simp only [chE] at h
    exact pe_tup (peL es g h)
  | .lst es, sc, e, E, blk, X, g, h => by
    cases e <;> try (simp [chE] at h; done)
    simp only [chE] at h
    exact pe_lst (peL es g h)
  | .dic, sc, e, E, blk, X, g, h => by
    cases e <;> try (simp [chE] at h; done)
    rename_i ks vs p
    rcases ks with _ | ⟨k, ks⟩ <;> rcases vs with _ | ⟨v, vs⟩ <;> try (simp [chE] at h; done)
    exact pe_dnewK
  | .dit, sc, e, E, blk, X, g, h => by
    cases e <;> try (simp [chE] at h; done)
    rename_i ks vs p
    rcases ks with _ | ⟨k, ks⟩ <;> rcases vs with _ | ⟨v, vs⟩ <;> try (simp [chE] at h; done)
    exact pe_dnewT
  | .dic1 a b, sc, e, E, blk, X, g, h => by
    cases e <;> try (simp [chE] at h; done)
    simp only [chE] at h
    split at h
    · rw [Bool.and_eq_true] at h
      exact pe_disp (pps_cons (peE a g h.1) (peE b g h.2) pps_nil) rfl rfl (by simp) (by simp)
    · cases h
  | .ix a b, sc, e, E, blk, X, g, h => by
    cases e <;> try (simp [chE] at h; done)
    simp only [chE, Bool.and_eq_true] at h
    exact pe_ix (ixA (by have := g.units; omega)) (peE a g h.1) (peE b g h.2) (plainIx (chE_slice h.2))
  | .cut a lo hi, sc, e, E, blk, X, g, h => by
    cases e <;> try (simp [chE] at h; done)
    rename_i x y p
    cases y <;> try (simp [chE] at h; done)
    rename_i l u st p2
    cases st <;> try (simp [chE] at h; done)
    simp only [chE, Bool.and_eq_true] at h
    exact pe_slice slA (peE a g h.1.1) (peO lo g h.1.2) (peO hi g h.2)
  | .blt b a, sc, e, E, blk, X, g, h => by
    cases e <;> try (simp [chE] at h; done)
    rename_i f as ks p
    cases f <;> try (simp [chE] at h; done)
    rcases as with _ | ⟨x, _ | ⟨y, as⟩⟩ <;> rcases ks with _ | ⟨k, ks⟩ <;> try (simp [chE] at h; done)
    simp only [chE, Bool.and_eq_true, decide_eq_true_eq] at h
    obtain ⟨⟨⟨h0, rfl⟩, h2⟩, h3⟩ := h
    rw [Bool.or_eq_true, decide_eq_true_eq, decide_eq_true_eq] at h0
    exact blt_of g h2 (peE a g h3) (chE_star h3) h0
  | .isi ty a, sc, e, E, blk, X, g, h => by
    cases e <;> try (simp [chE] at h; done)
    rename_i f as ks p
    cases f <;> try (simp [chE] at h; done)
    rcases as with _ | ⟨x, _ | ⟨y, _ | ⟨z, as⟩⟩⟩ <;> rcases ks with _ | ⟨k, ks⟩ <;> try (simp [chE] at h; done)
    cases y <;> try (simp [chE] at h; done)
    simp only [chE, Bool.and_eq_true, decide_eq_true_eq] at h
    obtain ⟨⟨⟨⟨rfl, h2⟩, h3⟩, h4⟩, h5⟩ := h
    have st := chE_star h5
    exact pe_callB call_isi (g.gl h2) (g.bi _ (by decide)) PyProof.Rows.boot_isinstance (pa_cons (peE a g h5) (pa_cons (ty_of g h3 h4) pa_nil) (star_of st)) (he := star_of st)
  | .call f .nil, sc, e, E, blk, X, g, h => by
    cases e <;> try (simp [chE] at h; done)
    rename_i fn as ks p
    cases fn <;> try (simp [chE] at h; done)
    rcases ks with _ | ⟨k, ks⟩ <;> try (simp [chE] at h; done)
    simp only [chE, Bool.and_eq_true, decide_eq_true_eq, nmB, Bool.not_eq_true'] at h
    obtain ⟨⟨⟨⟨h0, h1⟩, h2⟩, h3⟩, h4⟩ := h
    rw [Bool.or_eq_true, decide_eq_true_eq] at h0
    cases as with
    | cons x xs => simp [chL] at h4
    | nil =>
      obtain ⟨a, fd, ps, k, hk, F, FH, m, kp, b⟩ := g.fns f _ h1
      by_cases hc : md = .c
      · exact pe_call0S (F q) ((g.room hc).mono hk) (g.gl h2) m kp b g.pe h3.1
      · exact pe_call0H (FH (h0.resolve_left hc) q) ((g.hot hc).1.mono hk) (g.hot hc).2 (g.gl h2) m kp b g.pe h3.1
  | .call f (.cons c cs), sc, e, E, blk, X, g, h => by
    cases e <;> try (simp [chE] at h; done)
    rename_i fn as ks p
    cases fn <;> try (simp [chE] at h; done)
    rcases ks with _ | ⟨k, ks⟩ <;> try (simp [chE] at h; done)
    simp only [chE, Bool.and_eq_true, decide_eq_true_eq, nmB, Bool.not_eq_true'] at h
    obtain ⟨⟨⟨⟨h0, h1⟩, h2⟩, h3⟩, h4⟩ := h
    rw [Bool.or_eq_true, decide_eq_true_eq] at h0
    cases as with
    | nil => simp [chL] at h4
    | cons x xs =>
      simp only [chL, Bool.and_eq_true] at h4
      obtain ⟨a, fd, ps, k, hk, F, FH, m, kp, b⟩ := g.fns f _ h1
      have st := chE_star h4.1
      by_cases hc : md = .c
      · exact pe_callS (F q) ((g.room hc).mono hk) (g.gl h2) m kp b g.pe (pa_cons (peE c g h4.1) (peL cs g h4.2) (star_of st)) h3.1 (star_of st) (noStars h4.2)
      · exact L2H.pe_callH (FH (h0.resolve_left hc) q) ((g.hot hc).1.mono hk) (g.hot hc).2 (g.gl h2) m kp b g.pe (pa_cons (peE c g h4.1) (peL cs g h4.2) (star_of st)) h3.1 (star_of st) (noStars h4.2)
  | .comp it tg own c e0, sc, e, E, blk, X, g, h => by
    cases e <;> try (simp [chE] at h; done)
    rename_i elt gens scope p
    rcases gens with _ | ⟨⟨t, iter, ifs, ia⟩, _ | ⟨g2, gens⟩⟩ <;> try (simp [chE] at h; done)
    simp only [chE, Bool.and_eq_true, decide_eq_true_eq] at h
    obtain ⟨⟨⟨⟨⟨⟨hc, rfl⟩, h1⟩, h2⟩, h3⟩, h4⟩, h5⟩ := h
    have ok := blkOk_by h2
    have kd := ok.kind
    have r := pe_lc (own := ownN N own) (pos := p) (g := gT X.K tg) (tt := tTo ⟨X.K, q⟩ XR Φ E0' c) (te := tE ⟨X.K, q⟩ XR Φ E0' e0) (g.calm hc) g.nd (peI it (tg := t) g h1) (by rw [g.eN, g.eS]; exact ok) (fun s H C cl fp => (g.block hc kd s H C cl fp).tg hc h3)
      (fun s H C cl fp => peTo c (g.block hc kd s H C cl fp) h4) (fun s H C cl fp => peE e0 (g.block hc kd s H C cl fp) h5) (folded (chI_set h1))
    rw [ownN_slots] at r
    exact r
  | .dcomp it tg own k e0, sc, e, E, blk, X, g, h => by
    cases e <;> try (simp [chE] at h; done)
    rename_i kx vx gens scope p
    rcases gens with _ | ⟨⟨t, iter, ifs, ia⟩, _ | ⟨g2, gens⟩⟩ <;> try (simp [chE] at h; done)
    rcases ifs with _ | ⟨i0, ifs⟩ <;> try (simp [chE] at h; done)
    simp only [chE, Bool.and_eq_true, decide_eq_true_eq] at h
    obtain ⟨⟨⟨⟨⟨⟨hc, rfl⟩, h1⟩, h2⟩, h3⟩, h4⟩, h5⟩ := h
    have ok := blkOk_by h2
    have kd := ok.kind
    have r := pe_dc (own := ownN N own) (pos := p) (g := gT X.K tg) (tt := tYes) (tk := tE ⟨X.K, q⟩ XR Φ E0' k) (tv := tE ⟨X.K, q⟩ XR Φ E0' e0) (g.calm hc) g.nd (peI it (tg := t) g h1) (by rw [g.eN, g.eS]; exact ok) (fun s H C cl fp => (g.block hc kd s H C cl fp).tg hc h3)
      (fun s H C cl fp => pts_nil) (fun s H C cl fp => peE k (g.block hc kd s H C cl fp) h4) (fun s H C cl fp => peE e0 (g.block hc kd s H C cl fp) h5) (folded (chI_set h1))
    rw [ownN_slots] at r
    exact r
  | .sset it tg own e0, sc, e, E, blk, X, g, h => by
    cases e <;> try (simp [chE] at h; done)
    rename_i f as ks p
    cases f <;> try (simp [chE] at h; done)
    rename_i fx fp
    rcases as with _ | ⟨x, _ | ⟨y, as⟩⟩ <;> rcases ks with _ | ⟨k, ks⟩ <;> try (simp [chE] at h; done)
    cases x <;> try (simp [chE] at h; done)
    rename_i elt gens scope p2
    rcases gens with _ | ⟨⟨t, iter, ifs, ia⟩, _ | ⟨g2, gens⟩⟩ <;> try (simp [chE] at h; done)
    rcases ifs with _ | ⟨i0, ifs⟩ <;> try (simp [chE] at h; done)
    simp only [chE, Bool.and_eq_true, decide_eq_true_eq] at h
    obtain ⟨⟨⟨hc, rfl⟩, hg⟩, ⟨⟨⟨⟨rfl, h1⟩, h2⟩, h3⟩, h5⟩⟩ := h
    have ok := blkOk_by h2
    have kd := ok.kind
    have r := pe_scI (own := ownN N own) (pos := p2) (g := gT X.K tg) (te := tE ⟨X.K, q⟩ XR Φ E0' e0) (g.calm hc) g.nd (peI it (tg := t) g h1) (by rw [g.eN, g.eS]; exact ok) (fun s H C cl fp => (g.block hc kd s H C cl fp).tg hc h3)
      (fun s H C cl fp => peE e0 (g.block hc kd s H C cl fp) h5) (folded (chI_set h1))
    rw [ownN_slots] at r
    have r2 := pe_callB (cr_sortedSet (g.calm hc)) (g.gl hg) (g.bi _ (by decide)) PyProof.Rows.boot_sorted (p := fp) (pos := p) (pa_cons r pa_nil (by rfl))
    exact ⟨fun pins s σ H Q I want => r2.run pins s σ H Q I (want X.w)⟩
  | .mn a b, sc, e, E, blk, X, g, h => by
    cases e <;> try (simp [chE] at h; done)
    rename_i f as ks p
    cases f <;> try (simp [chE] at h; done)
    rcases as with _ | ⟨x, _ | ⟨y, _ | ⟨z, as⟩⟩⟩ <;> rcases ks with _ | ⟨k, ks⟩ <;> try (simp [chE] at h; done)
    simp only [chE, Bool.and_eq_true, decide_eq_true_eq] at h
    obtain ⟨⟨⟨⟨hc, rfl⟩, h2⟩, h3⟩, h4⟩ := h
    have st := chE_star h3
    have st2 := chE_star h4
    exact pe_callB (call_min2 (g.calm hc)) (g.gl h2) (g.bi _ (by decide)) PyProof.Rows.boot_min (pa_cons (peE a g h3) (pa_cons (peE b g h4) pa_nil (star_of st2)) (star_of st)) (he := star_of st) (hpl := by rw [star_of st2]; rfl)
  | .flt c i t, sc, e, E, blk, X, g, h => by
    cases e <;> try (simp [chE] at h; done)
    rename_i elt gens scope p
    rcases gens with _ | ⟨⟨tg, iter, ifs, ia⟩, _ | ⟨g2, gens⟩⟩ <;> try (simp [chE] at h; done)
    rcases ifs with _ | ⟨ifx, _ | ⟨i2, ifs⟩⟩ <;> try (simp [chE] at h; done)
    simp only [chE, Bool.and_eq_true, decide_eq_true_eq] at h
    obtain ⟨⟨⟨⟨⟨⟨hc, rfl⟩, h1⟩, h2⟩, h3⟩, h4⟩, h5⟩ := h
    cases elt with
    | Name x5 p5 =>
      have ok := blkOk_by h2
      have kd := ok.kind
      have r := pe_lc (elt := .Name x5 p5) (own := ownN N [i]) (pos := p) (g := gName i) (tt := tT ⟨X.K, q⟩ XR Φ E0' t) (te := tVar i) (g.calm hc) g.nd (pi_seq (tg := tg) (peE c g h1)) (by rw [g.eN, g.eS]; exact ok) (fun s H C cl fp => (g.block hc kd s H C cl fp).tgN h3)
        (fun s H C cl fp => pts_one (peT t (g.block hc kd s H C cl fp) h4)) (fun s H C cl fp => (g.block hc kd s H C cl fp).slot h5) (folded (chE_set h1))
      rw [ownN_slots] at r
      exact r
    | _ => simp at h5
  | .fld c n a, sc, e, E, blk, X, g, h => by
    cases e <;> try (simp [chE] at h; done)
    simp only [chE, Bool.and_eq_true, decide_eq_true_eq] at h
    obtain ⟨⟨⟨rfl, h2⟩, h3⟩, h4⟩ := h
    obtain ⟨f1, f2⟩ := g.fact h2
    exact pe_fldC f1 f2 (peE a g h4) (base_of h3)
  | .ccon c n i, sc, e, E, blk, X, g, h => by
    cases e <;> try (simp [chE] at h; done)
    rename_i v m p
    cases v <;> try (simp [chE] at h; done)
    simp only [chE, Bool.and_eq_true, decide_eq_true_eq, nmB, Bool.not_eq_true'] at h
    obtain ⟨⟨⟨⟨rfl, rfl⟩, h2⟩, h3⟩, h4⟩ := h
    obtain ⟨f1, f2, u, f3⟩ := g.fact h2
    refine ⟨fun pins s σ H Q I hw => ?_⟩
    refine attr_of rfl (ld_glob I (g.gl h3) f1 ?_ h4.1)
    exact ClX.getcval_ok I f2 f3 fun s2 I2 => ⟨.int i, H, I2, f3.rel, hw⟩
  | .isC c a, sc, e, E, blk, X, g, h => by
    cases e <;> try (simp [chE] at h; done)
    rename_i f as ks p
    cases f <;> try (simp [chE] at h; done)
    rcases as with _ | ⟨x, _ | ⟨y, _ | ⟨z, as⟩⟩⟩ <;> rcases ks with _ | ⟨k, ks⟩ <;> try (simp [chE] at h; done)
    cases y <;> try (simp [chE] at h; done)
    simp only [chE, Bool.and_eq_true, decide_eq_true_eq, nmB, Bool.not_eq_true'] at h
    obtain ⟨⟨⟨⟨⟨⟨rfl, h2⟩, rfl⟩, h3⟩, h4⟩, h5⟩, h6⟩ := h
    obtain ⟨f1, _⟩ := g.fact h5
    have st := chE_star h6
    exact pe_callB call_isi (g.gl h2) (g.bi _ (by decide)) PyProof.Rows.boot_isinstance (pa_cons (peE a g h6) (pa_cons (C8.pe_gc (v := .ref (He.ga X.K _)) (g.gl h3) ⟨_, f1, rfl⟩ h4.1) pa_nil) (star_of st)) (he := star_of st)
  | .make c f .nil, sc, e, E, blk, X, g, h => by
    cases e <;> try (simp [chE] at h; done)
    rename_i fn as ks p
    cases fn <;> try (simp [chE] at h; done)
    rcases ks with _ | ⟨k, ks⟩ <;> try (simp [chE] at h; done)
    simp only [chE, Bool.and_eq_true, decide_eq_true_eq, nmB, Bool.not_eq_true'] at h
    obtain ⟨⟨⟨⟨⟨⟨hc, rfl⟩, h2⟩, h3⟩, h4⟩, h5⟩, h6⟩ := h
    obtain ⟨f1, f2⟩ := g.fact h2
    obtain ⟨fd, ps, k, hk, F, b⟩ := g.inis f _ h3
    cases as with
    | cons x xs => simp [chL] at h6
    | nil => exact pe_makeS0 f2 (F q) ((g.room hc).mono hk) (g.gl h4) f1 b g.pe h5.1
  | .make c f (.cons a cs), sc, e, E, blk, X, g, h => by
    cases e <;> try (simp [chE] at h; done)
    rename_i fn as ks p
    cases fn <;> try (simp [chE] at h; done)
    rcases ks with _ | ⟨k, ks⟩ <;> try (simp [chE] at h; done)
    simp only [chE, Bool.and_eq_true, decide_eq_true_eq, nmB, Bool.not_eq_true'] at h
    obtain ⟨⟨⟨⟨⟨⟨hc, rfl⟩, h2⟩, h3⟩, h4⟩, h5⟩, h6⟩ := h
    obtain ⟨f1, f2⟩ := g.fact h2
    obtain ⟨fd, ps, k, hk, F, b⟩ := g.inis f _ h3
    cases as with
    | nil => simp [chL] at h6
    | cons x xs =>
      simp only [chL, Bool.and_eq_true] at h6
      have st := chE_star h6.1
      exact pe_makeS f2 (F q) ((g.room hc).mono hk) (g.gl h4) f1 b g.pe (pa_cons (peE a g h6.1) (peL cs g h6.2) (star_of st)) h5.1 (star_of st) (noStars h6.2)
  | .prop c n f a, sc, e, E, blk, X, g, h => by
    cases e <;> try (simp [chE] at h; done)
    simp only [chE, Bool.and_eq_true, decide_eq_true_eq] at h
    obtain ⟨⟨⟨⟨⟨hc, rfl⟩, h2⟩, h3⟩, h4⟩, h5⟩ := h
    obtain ⟨f1, f2⟩ := g.fact h2
    obtain ⟨fd, ps, k, hk, F, b⟩ := g.mts f _ _ _ h3
    exact pe_propS (peE a g h5) f1 f2 (F q) ((g.room hc).mono hk) b cx0N (base_of h4)
  | .meth c n f a .nil, sc, e, E, blk, X, g, h => by
    cases e <;> try (simp [chE] at h; done)
    rename_i fn as ks p
    cases fn <;> try (simp [chE] at h; done)
    rcases ks with _ | ⟨k, ks⟩ <;> try (simp [chE] at h; done)
    simp only [chE, Bool.and_eq_true, decide_eq_true_eq] at h
    obtain ⟨⟨⟨⟨⟨⟨⟨⟨hc, rfl⟩, h2⟩, h3⟩, h4⟩, h5⟩, h6⟩, h7⟩, h8⟩ := h
    obtain ⟨f1, f2⟩ := g.fact h2
    obtain ⟨fd, ps, k, hk, F, b⟩ := g.mts f _ _ _ h3
    cases as with
    | cons x xs => simp [chL] at h8
    | nil => exact pe_methS0 (peE a g h7) f1 f2 (F q) ((g.room hc).mono (by omega)) b g.pe (meth_tree (base_of h4) (form_of rfl (by decide)) h5)
  | .meth c n f a (.cons a1 cs), sc, e, E, blk, X, g, h => by
    cases e <;> try (simp [chE] at h; done)
    rename_i fn as ks p
    cases fn <;> try (simp [chE] at h; done)
    rcases ks with _ | ⟨k, ks⟩ <;> try (simp [chE] at h; done)
    simp only [chE, Bool.and_eq_true, decide_eq_true_eq] at h
    obtain ⟨⟨⟨⟨⟨⟨⟨⟨hc, rfl⟩, h2⟩, h3⟩, h4⟩, h5⟩, h6⟩, h7⟩, h8⟩ := h
    obtain ⟨f1, f2⟩ := g.fact h2
    obtain ⟨fd, ps, k, hk, F, b⟩ := g.mts f _ _ _ h3
    cases as with
    | nil => simp [chL] at h8
    | cons x xs =>
      have h9 := h8
      simp only [chL, Bool.and_eq_true] at h8
      have st := chE_star h8.1
      exact pe_methS (peE a g h7) f1 f2 (F q) ((g.room hc).mono (by omega)) b g.pe (pa_cons (peE a1 g h8.1) (peL cs g h8.2) (star_of st)) (star_of st) (noStars h8.2) (meth_tree (base_of h4) (form_of (noStars h9) (by simpa using h6)) h5)
  | .smeth c n f .nil, sc, e, E, blk, X, g, h => by
    cases e <;> simp [chE] at h
  | .smeth c n f (.cons a1 cs), sc, e, E, blk, X, g, h => by
    cases e <;> try (simp [chE] at h; done)
    rename_i fn as ks p
    cases fn <;> try (simp [chE] at h; done)
    rename_i v m ap
    cases v <;> try (simp [chE] at h; done)
    rcases ks with _ | ⟨k, ks⟩ <;> try (simp [chE] at h; done)
    simp only [chE, Bool.and_eq_true, decide_eq_true_eq, nmB, Bool.not_eq_true'] at h
    obtain ⟨⟨⟨⟨⟨⟨⟨⟨⟨hc, rfl⟩, rfl⟩, h2⟩, h3⟩, h4⟩, h5⟩, h6⟩, h7⟩, h8⟩ := h
    obtain ⟨f1, f2⟩ := g.fact h2
    obtain ⟨fd, ps, k, hk, F, b⟩ := g.mts f _ _ _ h3
    cases as with
    | nil => simp [chL] at h8
    | cons x xs =>
      have h9 := h8
      simp only [chL, Bool.and_eq_true] at h8
      have st := chE_star h8.1
      exact pe_smS f2 (g.gl h4) f1 (F q) ((g.room hc).mono (by omega)) b g.pe (pa_cons (peE a1 g h8.1) (peL cs g h8.2) (star_of st)) h5.1 (star_of st) (noStars h8.2) (meth_tree rfl (form_of (noStars h9) (by simpa using h7)) h6)
  | .inO neg c f a b, sc, e, E, blk, X, g, h => by
    cases e <;> try (simp [chE] at h; done)
    rename_i l ops cs p
    rcases ops with _ | ⟨o, _ | ⟨o2, ops⟩⟩ <;> rcases cs with _ | ⟨r, _ | ⟨r2, cs⟩⟩ <;> try (simp [chE] at h; done)
    simp only [chE, Bool.and_eq_true, decide_eq_true_eq, Bool.not_eq_true'] at h
    obtain ⟨⟨⟨⟨⟨⟨hc, h1⟩, h2⟩, h3⟩, h4⟩, h5⟩, h6⟩ := h
    exact pe_cmpR (in_of g hc h1 h2 h3) (peE a g h4) (peE b g h5) (marks h6)
  | .eqO n c f a b, sc, e, E, blk, X, g, h => by
    cases e <;> try (simp [chE] at h; done)
    rename_i l ops cs p
    rcases ops with _ | ⟨o, _ | ⟨o2, ops⟩⟩ <;> rcases cs with _ | ⟨r, _ | ⟨r2, cs⟩⟩ <;> try (simp [chE] at h; done)
    simp only [chE, Bool.and_eq_true, decide_eq_true_eq, Bool.not_eq_true'] at h
    obtain ⟨⟨⟨⟨⟨⟨hc, h1⟩, h2⟩, h3⟩, h4⟩, h5⟩, h6⟩ := h
    exact pe_cmpR (eq_of g hc h1 h2 h3) (peE a g h4) (peE b g h5) (marks h6)
  | .inR neg a .none hi, sc, e, E, blk, X, g, h => by
    cases e <;> try (simp [chE] at h; done)
    rename_i l ops cs p
    rcases ops with _ | ⟨o, _ | ⟨o2, ops⟩⟩ <;> rcases cs with _ | ⟨r, _ | ⟨r2, cs⟩⟩ <;> try (simp [chE] at h; done)
    cases r <;> try (simp [chE] at h; done)
    rename_i rf as ks rp
    cases rf <;> try (simp [chE] at h; done)
    rcases as with _ | ⟨x, _ | ⟨y, as⟩⟩ <;> rcases ks with _ | ⟨k, ks⟩ <;> try (simp [chE] at h; done)
    simp only [chE, Bool.and_eq_true, decide_eq_true_eq] at h
    obtain ⟨⟨⟨⟨h1, rfl⟩, h3⟩, h4⟩, h5⟩ := h
    rename_i np
    have st := chE_star h5
    have hr := pe_callTy (p := np) (pos := rp) cr_range1 (g.gl h3) (g.bi _ (by decide)) boot_range (pa_cons (peE hi g h5) pa_nil (star_of st)) (he := star_of st)
    exact rng_cmp h1 (peE a g h4) (by rw [show tO ⟨X.K, q⟩ XR Φ E .none = tNoPart from rfl, tRng1]; exact hr)
  | .inR neg a (.some lo) hi, sc, e, E, blk, X, g, h => by
    cases e <;> try (simp [chE] at h; done)
    rename_i l ops cs p
    rcases ops with _ | ⟨o, _ | ⟨o2, ops⟩⟩ <;> rcases cs with _ | ⟨r, _ | ⟨r2, cs⟩⟩ <;> try (simp [chE] at h; done)
    cases r <;> try (simp [chE] at h; done)
    rename_i rf as ks rp
    cases rf <;> try (simp [chE] at h; done)
    rcases as with _ | ⟨x, _ | ⟨y, _ | ⟨z, as⟩⟩⟩ <;> rcases ks with _ | ⟨k, ks⟩ <;> try (simp [chE] at h; done)
    simp only [chE, Bool.and_eq_true, decide_eq_true_eq] at h
    obtain ⟨⟨⟨⟨⟨h1, rfl⟩, h3⟩, h4⟩, h5⟩, h6⟩ := h
    rename_i np
    have st := chE_star h5
    have st2 := chE_star h6
    have hr := pe_callTy (p := np) (pos := rp) cr_range2 (g.gl h3) (g.bi _ (by decide)) boot_range (pa_cons (pe_asInt (peE lo g h5)) (pa_cons (peE hi g h6) pa_nil (star_of st2)) (star_of st)) (he := star_of st) (hpl := by rw [star_of st2]; rfl)
    exact rng_cmp h1 (peE a g h4) (by rw [show tO ⟨X.K, q⟩ XR Φ E (.some lo) = tPart (tE ⟨X.K, q⟩ XR Φ E lo) from rfl, tRng2]; exact hr)
  | .isX c i, sc, e, E, blk, X, g, h => by
    cases e <;> try (simp [chE] at h; done)
    rename_i f as ks p
    cases f <;> try (simp [chE] at h; done)
    rcases as with _ | ⟨x, _ | ⟨y, _ | ⟨z, as⟩⟩⟩ <;> rcases ks with _ | ⟨k, ks⟩ <;> try (simp [chE] at h; done)
    all_goals try (cases x <;> try (simp [chE] at h; done))
    all_goals try (cases y <;> try (simp [chE] at h; done))
    simp only [chE, Bool.and_eq_true, decide_eq_true_eq, nmB, Bool.not_eq_true', Bool.or_eq_true] at h
    obtain ⟨⟨⟨⟨⟨⟨⟨hm, rfl⟩, h2⟩, h3⟩, rfl⟩, h4⟩, h5⟩, h6⟩ := h
    obtain ⟨oe, pn, X0, rfl, hz, hf⟩ := g.xq hm
    rename_i p0 y py t pt
    have cv : PE (Cx.suite X0 q.a ((q.a, oe) :: pn)) (.Name t pt) (tC (clsV X0.K t)) := cls_of g h4 h5.1 h6
    exact pe_callB (X := Cx.suite X0 q.a ((q.a, oe) :: pn)) (p := p0) (call_isX hz hf) (g.gl h2) (g.bi _ (by decide)) PyProof.Rows.boot_isinstance (pa_cons (g.slot h3) (pa_cons cv pa_nil rfl) rfl)
  | .xfld c n i, sc, e, E, blk, X, g, h => by
    cases e <;> try (simp [chE] at h; done)
    rename_i v m p
    cases v <;> try (simp [chE] at h; done)
    simp only [chE, Bool.and_eq_true, decide_eq_true_eq] at h
    obtain ⟨⟨⟨hm, h2⟩, rfl⟩, h4⟩ := h
    obtain ⟨f1, f2⟩ := g.fact h4
    obtain ⟨oe, pn, X0, rfl, hz, hf⟩ := g.xq hm
    exact pe_xf f1 f2 hz hf (g.slot h2)
theorem peAnds : ∀ (cs : Cs) {sc : Scope} {e : Expr} {es : List Expr} {E : SX} {blk : Bool} {X : Cx} {ta : TE} {pos : Pos}, Gd N nm Φ XR lv md E blk q sc X → PE X e ta → chL N nm md cs sc es = true → PE X (.BoolOp .And (e :: es) pos) (tAndV ta (tAnds ⟨X.K, q⟩ XR Φ E cs))
  | .nil, sc, e, es, E, blk, X, ta, pos, g, he, h => by
    cases es <;> try (simp [chL] at h; done)
    exact and_one he
  | .cons c cs, sc, e, es, E, blk, X, ta, pos, g, he, h => by
    cases es <;> try (simp [chL] at h; done)
    simp only [chL, Bool.and_eq_true] at h
    exact pe_and he (peAnds cs g (peE c g h.1) h.2)
theorem peOrs : ∀ (cs : Cs) {sc : Scope} {e : Expr} {es : List Expr} {E : SX} {blk : Bool} {X : Cx} {ta : TE} {pos : Pos}, Gd N nm Φ XR lv md E blk q sc X → PE X e ta → chL N nm md cs sc es = true → PE X (.BoolOp .Or (e :: es) pos) (tOrV ta (tOrs ⟨X.K, q⟩ XR Φ E cs))
  | .nil, sc, e, es, E, blk, X, ta, pos, g, he, h => by
    cases es <;> try (simp [chL] at h; done)
    exact or_one he
  | .cons c cs, sc, e, es, E, blk, X, ta, pos, g, he, h => by
    cases es <;> try (simp [chL] at h; done)
    simp only [chL, Bool.and_eq_true] at h
    exact pe_or he (peOrs cs g (peE c g h.1) h.2)
theorem peL : ∀ (cs : Cs) {sc : Scope} {es : List Expr} {E : SX} {blk : Bool} {X : Cx}, Gd N nm Φ XR lv md E blk q sc X → chL N nm md cs sc es = true → PA X es (tA ⟨X.K, q⟩ XR Φ E cs)
  | .nil, sc, es, E, blk, X, g, h => by
    cases es <;> try (simp [chL] at h; done)
    exact pa_nil
  | .cons c cs, sc, es, E, blk, X, g, h => by
    cases es <;> try (simp [chL] at h; done)
    simp only [chL, Bool.and_eq_true] at h
    exact pa_cons (peE c g h.1) (peL cs g h.2) (star_of (chE_star h.1))
theorem peO : ∀ (c : Co) {sc : Scope} {e : Option Expr} {E : SX} {blk : Bool} {X : Cx}, Gd N nm Φ XR lv md E blk q sc X → chO N nm md c sc e = true → PO X e (tO ⟨X.K, q⟩ XR Φ E c)
  | .none, sc, e, E, blk, X, g, h => by
    cases e <;> try (simp [chO] at h; done)
    exact po_none
  | .some c, sc, e, E, blk, X, g, h => by
    cases e <;> try (simp [chO] at h; done)
    exact po_some (peE c g h)
theorem peTo : ∀ (c : To) {sc : Scope} {es : List Expr} {E : SX} {blk : Bool} {X : Cx}, Gd N nm Φ XR lv md E blk q sc X → chTo N nm md c sc es = true → PTs X es (tTo ⟨X.K, q⟩ XR Φ E c)
  | .none, sc, es, E, blk, X, g, h => by
    cases es <;> try (simp [chTo] at h; done)
    exact pts_nil
  | .some t, sc, es, E, blk, X, g, h => by
    rcases es with _ | ⟨e, _ | ⟨e2, es⟩⟩ <;> try (simp [chTo] at h; done)
    exact pts_one (peT t g h)
theorem peT : ∀ (t : T) {sc : Scope} {e : Expr} {E : SX} {blk : Bool} {X : Cx}, Gd N nm Φ XR lv md E blk q sc X → chT N nm md t sc e = true → PT X e (tT ⟨X.K, q⟩ XR Φ E t)
  | .v c, sc, e, E, blk, X, g, h => by
    simp only [chT, Bool.and_eq_true] at h
    exact pt_truth (peE c g h.2) (plain_truth h.1 X.env)
  | .b c, sc, e, E, blk, X, g, h => by
    cases c with
    | cmp op a b =>
      cases e <;> try (simp [chT] at h; done)
      rename_i l ops cs p
      rcases ops with _ | ⟨o, _ | ⟨o2, ops⟩⟩ <;> rcases cs with _ | ⟨r, _ | ⟨r2, cs⟩⟩ <;> try (simp [chT] at h; done)
      simp only [chT, Bool.and_eq_true, Bool.not_eq_true'] at h
      exact pt_of_cmp (cmp_of g h.1.1.1) (peE a g h.1.1.2) (peE b g h.1.2) h.2
    | chain op op' a b c =>
      cases e <;> try (simp [chT] at h; done)
      rename_i l ops cs p
      rcases ops with _ | ⟨o, _ | ⟨o2, _ | ⟨o3, ops⟩⟩⟩ <;> rcases cs with _ | ⟨r, _ | ⟨r2, _ | ⟨r3, cs⟩⟩⟩ <;> try (simp [chT] at h; done)
      simp only [chT, Bool.and_eq_true, Bool.not_eq_true'] at h
      exact pt_chain (cmp_of g h.1.1.1.1.1.1) (cmp_of g h.1.1.1.1.1.2) (peE a g h.1.1.1.1.2) (peE b g h.1.1.1.2) (peE c g h.1.1.2) (chain_marks h.1.2 h.2)
    | isN n a =>
      cases e <;> try (cases n <;> simp [chT] at h; done)
      rename_i l ops cs p
      rcases ops with _ | ⟨o, _ | ⟨o2, ops⟩⟩ <;> rcases cs with _ | ⟨r, _ | ⟨r2, cs⟩⟩ <;> try (cases n <;> simp [chT] at h; done)
      cases n
      · cases o <;> try (simp [chT] at h; done)
        cases r <;> try (simp [chT] at h; done)
        rename_i v k p2
        cases v <;> try (simp [chT] at h; done)
        simp only [chT] at h
        exact pt_cmp (pc_isN (peE a g h)) (nobehind _ (by decide) (by decide))
      · cases o <;> try (simp [chT] at h; done)
        cases r <;> try (simp [chT] at h; done)
        rename_i v k p2
        cases v <;> try (simp [chT] at h; done)
        simp only [chT] at h
        exact pt_cmp (pc_notN (peE a g h)) (nobehind _ (by decide) (by decide))
    | inO neg c f a b =>
      cases e <;> try (simp [chT] at h; done)
      rename_i l ops cs p
      rcases ops with _ | ⟨o, _ | ⟨o2, ops⟩⟩ <;> rcases cs with _ | ⟨r, _ | ⟨r2, cs⟩⟩ <;> try (simp [chT] at h; done)
      simp only [chT, Bool.and_eq_true, decide_eq_true_eq, Bool.not_eq_true'] at h
      obtain ⟨⟨⟨⟨⟨⟨hc, h1⟩, h2⟩, h3⟩, h4⟩, h5⟩, h6⟩ := h
      exact pt_cmpR (in_of g hc h1 h2 h3) (peE a g h4) (peE b g h5) (marks h6)
    | eqO n c f a b =>
      cases e <;> try (simp [chT] at h; done)
      rename_i l ops cs p
      rcases ops with _ | ⟨o, _ | ⟨o2, ops⟩⟩ <;> rcases cs with _ | ⟨r, _ | ⟨r2, cs⟩⟩ <;> try (simp [chT] at h; done)
      simp only [chT, Bool.and_eq_true, decide_eq_true_eq, Bool.not_eq_true'] at h
      obtain ⟨⟨⟨⟨⟨⟨hc, h1⟩, h2⟩, h3⟩, h4⟩, h5⟩, h6⟩ := h
      exact pt_cmpR (eq_of g hc h1 h2 h3) (peE a g h4) (peE b g h5) (marks h6)
    | inR neg a lo hi =>
      cases lo with
      | some lo => simp [chT] at h
      | none =>
        cases e <;> try (simp [chT] at h; done)
        rename_i l ops cs p
        rcases ops with _ | ⟨o, _ | ⟨o2, ops⟩⟩ <;> rcases cs with _ | ⟨r, _ | ⟨r2, cs⟩⟩ <;> try (simp [chT] at h; done)
        cases r <;> try (simp [chT] at h; done)
        rename_i rf as ks rp
        cases rf <;> try (simp [chT] at h; done)
        rcases as with _ | ⟨x, _ | ⟨y, as⟩⟩ <;> rcases ks with _ | ⟨k, ks⟩ <;> try (simp [chT] at h; done)
        simp only [chT, Bool.and_eq_true, decide_eq_true_eq] at h
        obtain ⟨⟨⟨⟨h1, rfl⟩, h3⟩, h4⟩, h5⟩ := h
        rename_i np
        have st := chE_star h5
        have hr := pe_callTy (p := np) (pos := rp) cr_range1 (g.gl h3) (g.bi _ (by decide)) boot_range (pa_cons (peE hi g h5) pa_nil (star_of st)) (he := star_of st)
        exact rng_cmpT h1 (peE a g h4) (by rw [show tO ⟨X.K, q⟩ XR Φ E .none = tNoPart from rfl, tRng1]; exact hr)
    | _ => simp [chT] at h
  | .not t, sc, e, E, blk, X, g, h => by
    cases e <;> try (simp [chT] at h; done)
    rename_i op v p
    cases op <;> try (simp [chT] at h; done)
    simp only [chT] at h
    exact pt_not (peT t g h)
  | .and (.cons t ts), sc, e, E, blk, X, g, h => by
    cases e <;> try (simp [chT] at h; done)
    rename_i op vs p
    cases op <;> try (simp [chT] at h; done)
    cases vs <;> try (simp [chT] at h; done)
    simp only [chT, Bool.and_eq_true] at h
    exact (peTA ts g (peT t g h.1) h.2).pt
  | .or (.cons t ts), sc, e, E, blk, X, g, h => by
    cases e <;> try (simp [chT] at h; done)
    rename_i op vs p
    cases op <;> try (simp [chT] at h; done)
    cases vs <;> try (simp [chT] at h; done)
    simp only [chT, Bool.and_eq_true] at h
    exact (peTO ts g (peT t g h.1) h.2).pt
  | .and .nil, sc, e, E, blk, X, g, h => by simp [chT] at h
  | .or .nil, sc, e, E, blk, X, g, h => by simp [chT] at h
theorem peTA : ∀ (ts : Ts) {sc : Scope} {e : Expr} {es : List Expr} {E : SX} {blk : Bool} {X : Cx} {ta : TT} {pos : Pos}, Gd N nm Φ XR lv md E blk q sc X → PT X e ta → chTs N nm md ts sc es = true → PW X (.BoolOp .And (e :: es) pos) (tAnd ta (tTA ⟨X.K, q⟩ XR Φ E ts))
  | .nil, sc, e, es, E, blk, X, ta, pos, g, he, h => by
    cases es <;> try (simp [chTs] at h; done)
    refine ⟨fun wh pins s τ G Q I hw => ?_⟩
    refine isTrue_and (thn (he.run pins s τ G _ I hw) fun c s1 ⟨G1, J, q⟩ => ?_)
    cases c with
    | true => exact isTrue_and_nil ⟨G1, J, q⟩
    | false => exact ⟨G1, J, q⟩
  | .cons t ts, sc, e, es, E, blk, X, ta, pos, g, he, h => by
    cases es <;> try (simp [chTs] at h; done)
    simp only [chTs, Bool.and_eq_true] at h
    exact pw_and he (peTA ts g (peT t g h.1) h.2)
theorem peTO : ∀ (ts : Ts) {sc : Scope} {e : Expr} {es : List Expr} {E : SX} {blk : Bool} {X : Cx} {ta : TT} {pos : Pos}, Gd N nm Φ XR lv md E blk q sc X → PT X e ta → chTs N nm md ts sc es = true → PW X (.BoolOp .Or (e :: es) pos) (tOr ta (tTO ⟨X.K, q⟩ XR Φ E ts))
  | .nil, sc, e, es, E, blk, X, ta, pos, g, he, h => by
    cases es <;> try (simp [chTs] at h; done)
    refine ⟨fun wh pins s τ G Q I hw => ?_⟩
    refine isTrue_or (thn (he.run pins s τ G _ I hw) fun c s1 ⟨G1, J, q⟩ => ?_)
    cases c with
    | true => exact ⟨G1, J, q⟩
    | false => exact isTrue_or_nil ⟨G1, J, q⟩
  | .cons t ts, sc, e, es, E, blk, X, ta, pos, g, he, h => by
    cases es <;> try (simp [chTs] at h; done)
    simp only [chTs, Bool.and_eq_true] at h
    exact pw_or he (peTO ts g (peT t g h.1) h.2)
theorem peI : ∀ (c : EV.It) {sc : Scope} {tg e : Expr} {E : SX} {blk : Bool} {X : Cx}, Gd N nm Φ XR lv md E blk q sc X → chI N nm md c sc tg e = true → PI X tg e (tI ⟨X.K, q⟩ XR Φ E c)
  | .r1 a, sc, tg, e, E, blk, X, g, h => by
    cases e <;> try (simp [chI] at h; done)
    rename_i f as ks p
    cases f <;> try (simp [chI] at h; done)
    rcases as with _ | ⟨x, _ | ⟨y, as⟩⟩ <;> rcases ks with _ | ⟨k, ks⟩ <;> try (simp [chI] at h; done)
    simp only [chI, Bool.and_eq_true, decide_eq_true_eq] at h
    obtain ⟨⟨rfl, h2⟩, h3⟩ := h
    have st := chE_star h3
    exact pi_range1 (g.gl h2) (g.bi _ (by decide)) (pa_cons (peE a g h3) pa_nil (star_of st)) (star_of st)
  | .r2 a b, sc, tg, e, E, blk, X, g, h => by
    cases e <;> try (simp [chI] at h; done)
    rename_i f as ks p
    cases f <;> try (simp [chI] at h; done)
    rcases as with _ | ⟨x, _ | ⟨y, _ | ⟨z, as⟩⟩⟩ <;> rcases ks with _ | ⟨k, ks⟩ <;> try (simp [chI] at h; done)
    simp only [chI, Bool.and_eq_true, decide_eq_true_eq] at h
    obtain ⟨⟨⟨rfl, h2⟩, h3⟩, h4⟩ := h
    have st := chE_star h3
    have st2 := chE_star h4
    exact pi_range2 (g.gl h2) (g.bi _ (by decide)) (pa_cons (peE a g h3) (pa_cons (peE b g h4) pa_nil (star_of st2)) (star_of st)) ((star_of st).trans (by rw [star_of st2]; rfl)) (star_of st2)
  | .seq c, sc, tg, e, E, blk, X, g, h => pi_seq (peE c g (by simpa [chI] using h))
  | .enum a, sc, tg, e, E, blk, X, g, h => by
    cases e <;> try (simp [chI] at h; done)
    rename_i f as ks p
    cases f <;> try (simp [chI] at h; done)
    rcases as with _ | ⟨x, _ | ⟨y, as⟩⟩ <;> rcases ks with _ | ⟨k, ks⟩ <;> try (simp [chI] at h; done)
    simp only [chI, Bool.and_eq_true, decide_eq_true_eq] at h
    obtain ⟨⟨⟨rfl, h2⟩, h3⟩, h4⟩ := h
    have st := chE_star h3
    cases tg <;> try (cases h4; done)
    exact pi_enumA (g.gl h2) (g.bi _ (by decide)) (pa_cons (peE a g h3) pa_nil (star_of st)) (star_of st)
end
end EV
namespace EV
open PySem PySem.Spec PyProof.Rows L2
/-! ### statements of the text -/
def swB (sc : Scope) (v : Expr) (x : Str) (p : Pos) : Bool := match v with
  | .ListComp _ _ s _ => decide (sc.names.lookup x = some .local) && p.line == v.pos.line && !(s.names.any fun (n, k) => n == x && (k == .local || k == .cell))
  | .SetComp _ _ s _ => decide (sc.names.lookup x = some .local) && p.line == v.pos.line && !(s.names.any fun (n, k) => n == x && (k == .local || k == .cell))
  | .DictComp _ _ _ s _ => decide (sc.names.lookup x = some .local) && p.line == v.pos.line && !(s.names.any fun (n, k) => n == x && (k == .local || k == .cell))
  | _ => false
theorem sw_eval {sc : Scope} {v : Expr} {x : Str} {p : Pos} {l : Nat} {env : PySem.Env} (e : env.scope = sc) (k : sc.kind = .function) : swapsWith v (some (.Name x p)) l env = pure (swB sc v x p) := by
  have hb : env.blockKind = .function := by unfold Env.blockKind; rw [e, k]; rfl
  have hk : (env.kindOf x == some .local) = decide (sc.names.lookup x = some .local) := by
    show (env.scope.names.lookup x == some .local) = _
    rw [e]
    by_cases h : sc.names.lookup x = some .local
    · rw [h]; rfl
    · rw [decide_eq_false h]
      exact beq_eq_false_iff_ne.mpr h
  cases v <;> first | rfl | (unfold swapsWith swB; simp only [hb, hk]; rfl)
/-- try: body; except x as n: h0; hs -/
def unTry : Stmt → Option (List Stmt × Str × Str × Stmt × List Stmt)
  | .Try body [.ExceptHandler (some (.Name x _)) (some n) (h0 :: hs) _] [] [] _ => some (body, x, n, h0, hs)
  | _ => none
theorem unTry_inv {st : Stmt} {r : List Stmt × Str × Str × Stmt × List Stmt} (h : unTry st = some r) : ∃ np hp p, st = .Try r.1 [.ExceptHandler (some (.Name r.2.1 np)) (some r.2.2.1) (r.2.2.2.1 :: r.2.2.2.2) hp] [] [] p := by
  unfold unTry at h
  split at h
  · cases h
    exact ⟨_, _, _, rfl⟩
  · cases h
section
variable (N : List Str) (nm : Nm)
section
variable (md : Md)
def chP (i : Nat) : Cs → Scope → Expr → Bool
  | .nil, sc, .Name x _ => slotB N sc i x
  | .cons k ks, sc, .Subscript r y _ => chP i ks sc r && chE N nm md k sc y
  | _, _, _ => false
def chAsg (t : Tg) (e : C) (sc : Scope) (tg v : Expr) : Bool := match t with
  | .name i => tgN N false sc i tg && chE N nm md e sc v
  | .tup is => decide (md = .c) && chTg N false sc (.tup is) tg && chE N nm md e sc v && !isComp v && !isTup v
def chMv (i j : Nat) (sc : Scope) (tg v : Expr) : Bool := match v with
  | .Name y _ => tgN N false sc i tg && slotB N sc j y
  | _ => false
def chPut (i : Nat) (path : Cs) (k e : C) (sc : Scope) (tg v : Expr) : Bool := match tg with
  | .Subscript r y _ => chP N nm md i path sc r && chE N nm md k sc y && chE N nm md e sc v
  | _ => false
/-- name.m(arg): the name, m, the arg, on one row -/
def unMeth : Expr → Option (Str × Pos × Str × Pos × Expr × Pos)
  | .Call (.Attribute (.Name r rp) m ap) [a] [] cp => if ap.endLine == cp.line then some (r, rp, m, ap, a, cp) else none
  | _ => none
theorem unMeth_inv {v : Expr} {r : Str × Pos × Str × Pos × Expr × Pos} (h : unMeth v = some r) : v = .Call (.Attribute (.Name r.1 r.2.1) r.2.2.1 r.2.2.2.1) [r.2.2.2.2.1] [] r.2.2.2.2.2 ∧ (r.2.2.2.1.endLine == r.2.2.2.2.2.line) = true := by
  unfold unMeth at h
  split at h
  · split at h
    · rename_i h2
      cases h
      exact ⟨rfl, h2⟩
    · cases h
  · cases h
/-- name.m(), on one row -/
def unMeth0 : Stmt → Option (Str × Pos × Str × Pos × Pos × Pos)
  | .Expr (.Call (.Attribute (.Name r rp) m ap) [] [] cp) p => if ap.endLine == cp.line then some (r, rp, m, ap, cp, p) else none
  | _ => none
theorem unMeth0_inv {v : Stmt} {r : Str × Pos × Str × Pos × Pos × Pos} (h : unMeth0 v = some r) : v = .Expr (.Call (.Attribute (.Name r.1 r.2.1) r.2.2.1 r.2.2.2.1) [] [] r.2.2.2.2.1) r.2.2.2.2.2 ∧ (r.2.2.2.1.endLine == r.2.2.2.2.1.line) = true := by
  unfold unMeth0 at h
  split at h
  · split at h
    · rename_i h2
      cases h
      exact ⟨rfl, h2⟩
    · cases h
  · cases h
def chApop (i j : Nat) (k : C) (sc : Scope) (v : Expr) : Bool := match unMeth v with
  | some (r, _, m, _, a, _) => (match unMeth a with
    | some (r2, _, m2, _, a2, _) => decide (m = ("append" : Str)) && decide (m2 = ("pop" : Str)) && slotB N sc i r && slotB N sc j r2 && chE N nm md k sc a2
    | none => false)
  | none => false
def chEach (i gi : Nat) (e : C) (sc : Scope) (t x : Expr) (b : List Stmt) : Bool := match x, b with
  | .Name r _, [.Expr v _] => decide (md = .c) && slotB N sc i r && tgN N false sc gi t && (match unMeth v with
    | some (r2, _, m, _, a, _) => decide (m = ("append" : Str)) && slotB N sc gi r2 && chE N nm md e sc a
    | none => false)
  | _, _ => false
def chB : TB → Scope → List Stmt → Bool
  | .nil, _, [] => true
  | .ret e, sc, [.Return (some v) _] => chE N nm md e sc v
  | .expr e b, sc, .Expr v _ :: sts => chE N nm md e sc v && !isComp v && chB b sc sts
  | .ife t a b, sc, .If e x [] _ :: sts => chT N nm md t sc e && chB a sc x && chB b sc sts
  | _, _, _ => false
def chSfld (i : Nat) (c n : Str) (e : C) (sc : Scope) (tg v : Expr) : Bool := match tg with
  | .Attribute (.Name x _) m _ => decide (m = n) && slotB N sc i x && nm.has (.fld c n) && chE N nm md e sc v
  | _ => false
def chRaise (c : Str) (f : Nat) (es : Cs) (sc : Scope) (v : Expr) : Bool := match es, v with
  | .cons a cs, .Call (.Name x _) (e :: xs) [] _ => decide (md = .c) && decide (x = c) && nm.has (.rai c) && decide (nm.xi f = some c) && glB sc x && nmB x && chE N nm md a sc e && chL N nm md cs sc xs
  | _, _ => false
end
mutual
def chS : Md → EV.S → Scope → Stmt → Bool
  | md, .asg t e, sc, .Assign [tg] v _ => chAsg N nm md t e sc tg v
  | md, .mvs i j, sc, .Assign [tg] v _ => chMv N i j sc tg v
  | md, .put i path k e, sc, .Assign [tg] v _ => chPut N nm md i path k e sc tg v
  | md, .aug i false e, sc, .AugAssign (.Name x p) .Add v _ => tgN N false sc i (.Name x p) && chE N nm md e sc v
  | md, .aug i true e, sc, .AugAssign (.Name x p) .Sub v _ => tgN N false sc i (.Name x p) && chE N nm md e sc v
  | md, .app i path e, sc, .Expr (.Call (.Attribute r m ap) [a] [] cp) _ => decide (m = ("append" : Str)) && chP N nm md i path sc r && chE N nm md e sc a && (ap.endLine == cp.line)
  | md, .augp i path k false e, sc, .AugAssign (.Subscript r y _) .Add v _ => chP N nm md i path sc r && chE N nm md k sc y && chE N nm md e sc v
  | md, .augp i path k true e, sc, .AugAssign (.Subscript r y _) .Sub v _ => chP N nm md i path sc r && chE N nm md k sc y && chE N nm md e sc v
  | md, .expr e, sc, .Expr v _ => chE N nm md e sc v && !isComp v
  | md, .ife t a b, sc, .If e x y _ => chT N nm md t sc e && chSs md a sc x && chSs md b sc y
  | md, .whl _ t b, sc, .While e x [] _ => chT N nm md t sc e && chSs md b sc x
  | md, .fr it tg b, sc, .For t e x [] _ => decide (md = .c) && chI N nm md it sc t e && chTg N false sc tg t && chSs md b sc x
  | md, .ret e, sc, .Return (some v) _ => chE N nm md e sc v
  | md, .retn, _, .Return none _ => true
  | md, .retmv i, sc, .Return (some (.Name x _)) _ => slotB N sc i x
  | md, .apop i j k, sc, .Expr v _ => chApop N nm md i j k sc v
  | md, .each i gi e, sc, .For t x b [] _ => chEach N nm md i gi e sc t x b
  | md, .sfld i c n e, sc, .Assign [tg] v _ => chSfld N nm md i c n e sc tg v
  | md, .raise c f es, sc, .Raise (some v) none _ => chRaise N nm md c f es sc v
  | md, .tryx b i c h, sc, st => (match unTry st with
    | some r => decide (md = .c) && decide (r.2.1 = c) && glB sc r.2.1 && nmB r.2.1 && (decide (c = ("ValueError" : Str)) || nm.has (.cls c)) && decide (N[i]? = some r.2.2.1) && decide (sc.names.lookup r.2.2.1 = some .local) && chB N nm md b sc r.1 && chSs .x h sc (r.2.2.2.1 :: r.2.2.2.2)
    | none => false)
  | md, .rev i, sc, st => (match unMeth0 st with
    | some r => decide (r.2.2.1 = ("reverse" : Str)) && slotB N sc i r.1
    | none => false)
  | md, .brk, _, .Break _ => true
  | md, .cont, _, .Continue _ => true
  | md, .pass, _, .Pass _ => true
  | _, _, _, _ => false
def chSs : Md → Ss → Scope → List Stmt → Bool
  | md, .nil, _, [] => true
  | md, .cons (.frz _) ss, sc, sts => chSs md ss sc sts
  | md, .cons s ss, sc, st :: sts => chS md s sc st && chSs md ss sc sts
  | _, _, _, _ => false
end
end
variable {N : List Str} {nm : Nm} {md : Md} {Φ : Nat → FD} {XR : PySem.W.Frag} {lv : Nat} {E : SX} {blk : Bool} {sc : Scope} {X : Cx} {q : XQ}
theorem Gd.zero (g : Gd N nm Φ XR lv md E blk q sc X) : Gd N nm Φ XR lv md E0' blk q sc X := ⟨g.eN, g.nd, g.eS, g.kind, g.calm, g.room, g.units, g.hot, g.xq, g.fn, g.own, g.po, takes0N, g.bi, g.fns, g.mts, g.inis, g.xis, g.fcs⟩
theorem peP (i : Nat) : ∀ (ks : Cs) {e : Expr}, Gd N nm Φ XR lv md E blk q sc X → chP N nm md i ks sc e = true → PE X e (tP ⟨X.K, q⟩ XR Φ i ks)
  | .nil, e, g, h => by
    cases e <;> try (simp [chP] at h; done)
    exact g.slot h
  | .cons k ks, e, g, h => by
    cases e <;> try (simp [chP] at h; done)
    simp only [chP, Bool.and_eq_true] at h
    have g0 := g.zero
    exact pe_ix (ixA (by have := g.units; omega)) (peP i ks g h.1) (peE k g0 h.2) (plainIx (chE_slice h.2))
theorem chP_base {i : Nat} {ks : Cs} {e : Expr} (h : chP N nm md i ks sc e = true) (m : Str) (env : PySem.Env) : attributeBase e m env (eval e env) = eval e env := by
  cases e <;> first | rfl | (cases ks <;> simp [chP] at h)
theorem tgN_loc {i : Nat} {x : Str} {p : Pos} (g : Gd N nm Φ XR lv md E false q sc X) (h : EV.tgN N false sc i (.Name x p) = true) : X.N[i]? = some x ∧ L2.Loc X.env.scope x := by
  simp only [EV.tgN, stB, Bool.and_eq_true, Bool.or_eq_true, decide_eq_true_eq] at h
  rw [g.eN, g.eS]
  refine ⟨h.1, ?_⟩
  rcases h.2 with h | h
  · exact .inl h
  · exact .inr h.2
theorem few {e : Expr} {pos : Pos} {env : PySem.Env} (h : isStar e = false) : ((backTo pos (starEach [e] env)).all (fun x => !x.1) && (backToKw pos (keywordEach [] env)).all (fun x => x.1.isSome)
      && decide ([e].length + ([] : List Keyword).length + (if ([] : List Keyword).isEmpty then 0 else 1) < 30)) = true := by
  rw [star_of h]; rfl
theorem noSwap {v : Expr} {t : Option Expr} {l : Nat} {env : PySem.Env} (h : isComp v = false) : swapsWith v t l env = pure false := by
  cases v <;> first | rfl | cases h
theorem noSwap2 {v r y : Expr} {p : Pos} {l : Nat} {env : PySem.Env} : swapsWithSole [.Subscript r y p] v l env = pure false := by
  cases v <;> rfl
/-- name = value, whatever the value -/
theorem ps_name {i : Nat} {x : Str} {p pos : Pos} {c : C} {v : Expr} (g : Gd N nm Φ XR lv md E false q sc X) (ht : EV.tgN N false sc i (.Name x p) = true) (h : chE N nm md c sc v = true) :
    PS X (.Assign [.Name x p] v pos) (tAsg (tE ⟨X.K, q⟩ XR Φ E c) (gName i)) := by
  obtain ⟨hi, hl⟩ := tgN_loc g ht
  have hsw := sw_eval (v := v) (x := x) (p := p) (l := pos.line) g.eS g.kind
  by_cases hs : swB sc v x p = true
  · rw [hs] at hsw
    have loc : X.env.scope.names.lookup x = some .local := by
      rw [g.eS]
      unfold swB at hs
      split at hs
      · simp only [Bool.and_eq_true, decide_eq_true_eq] at hs; exact hs.1.1
      · simp only [Bool.and_eq_true, decide_eq_true_eq] at hs; exact hs.1.1
      · simp only [Bool.and_eq_true, decide_eq_true_eq] at hs; exact hs.1.1
      · cases hs
    cases v <;> try (simp [swB] at hs; done)
    · rename_i elt gens scope cp
      cases c <;> try (simp [chE] at h; done)
      rotate_left
      · rename_i c0 i0 t0
        rcases gens with _ | ⟨⟨t, iter, ifs, ia⟩, _ | ⟨g2, gens⟩⟩ <;> try (simp [chE] at h; done)
        rcases ifs with _ | ⟨ifx, _ | ⟨i2, ifs⟩⟩ <;> try (simp [chE] at h; done)
        simp only [chE, Bool.and_eq_true, decide_eq_true_eq] at h
        obtain ⟨⟨⟨⟨⟨⟨hc, rfl⟩, h1⟩, h2⟩, h3⟩, h4⟩, h5⟩ := h
        cases elt with
        | Name x5 p5 =>
          have ok := blkOk_by h2
          have kd := ok.kind
          have r := ps_setLc (elt := .Name x5 p5) (own := ownN N [i0]) (g := gName i0) (tt := tT ⟨X.K, q⟩ XR Φ E0' t0) (te := tVar i0) (g.calm hc) g.nd hi loc hsw (pi_seq (tg := t) (peE c0 g h1)) (by rw [g.eN, g.eS]; exact ok) (fun s H C cl fp => (g.block hc kd s H C cl fp).tgN h3)
            (fun s H C cl fp => pts_one (peT t0 (g.block hc kd s H C cl fp) h4)) (fun s H C cl fp => (g.block hc kd s H C cl fp).slot h5) (folded (chE_set h1))
          rw [ownN_slots] at r
          exact r
        | _ => simp at h5
      rename_i it tg own c e0
      rcases gens with _ | ⟨⟨t, iter, ifs, ia⟩, _ | ⟨g2, gens⟩⟩ <;> try (simp [chE] at h; done)
      simp only [chE, Bool.and_eq_true, decide_eq_true_eq] at h
      obtain ⟨⟨⟨⟨⟨⟨hc, rfl⟩, h1⟩, h2⟩, h3⟩, h4⟩, h5⟩ := h
      have ok := blkOk_by h2
      have kd := ok.kind
      have r := ps_setLc (own := ownN N own) (g := gT X.K tg) (tt := tTo ⟨X.K, q⟩ XR Φ E0' c) (te := tE ⟨X.K, q⟩ XR Φ E0' e0) (g.calm hc) g.nd hi loc hsw (peI it (tg := t) g h1) (by rw [g.eN, g.eS]; exact ok) (fun s H C cl fp => (g.block hc kd s H C cl fp).tg hc h3)
        (fun s H C cl fp => peTo c (g.block hc kd s H C cl fp) h4) (fun s H C cl fp => peE e0 (g.block hc kd s H C cl fp) h5) (folded (chI_set h1))
      rw [ownN_slots] at r
      exact r
    · simp [chE] at h
    · rename_i kx vx gens scope cp
      cases c <;> try (simp [chE] at h; done)
      rename_i it tg own k e0
      rcases gens with _ | ⟨⟨t, iter, ifs, ia⟩, _ | ⟨g2, gens⟩⟩ <;> try (simp [chE] at h; done)
      rcases ifs with _ | ⟨i0, ifs⟩ <;> try (simp [chE] at h; done)
      simp only [chE, Bool.and_eq_true, decide_eq_true_eq] at h
      obtain ⟨⟨⟨⟨⟨⟨hc, rfl⟩, h1⟩, h2⟩, h3⟩, h4⟩, h5⟩ := h
      have ok := blkOk_by h2
      have kd := ok.kind
      have r := ps_setDc (mine := ownN N own) (g := gT X.K tg) (tk := tE ⟨X.K, q⟩ XR Φ E0' k) (tv := tE ⟨X.K, q⟩ XR Φ E0' e0) (g.calm hc) g.nd hi loc hsw (peI it (tg := t) g h1) (by rw [g.eN, g.eS]; exact ok) (fun s H C cl fp => (g.block hc kd s H C cl fp).tg hc h3)
        (fun s H C cl fp => peE k (g.block hc kd s H C cl fp) h4) (fun s H C cl fp => peE e0 (g.block hc kd s H C cl fp) h5) (folded (chI_set h1))
      rw [ownN_slots] at r
      exact r
  · have hs : swB sc v x p = false := by simpa using hs
    rw [hs] at hsw
    exact ps_set g.nd hi hl (peE c g h) hsw (.inl (g.fn rfl x))
theorem chSs_inv {s : EV.S} {ss : Ss} {sc : Scope} {sts : List Stmt} (h : chSs N nm md (.cons s ss) sc sts = true) :
    (∃ i, s = .frz i ∧ chSs N nm md ss sc sts = true) ∨ ∃ st sts', sts = st :: sts' ∧ chS N nm md s sc st = true ∧ chSs N nm md ss sc sts' = true := by
  cases s <;> first
    | exact .inl ⟨_, rfl, by simpa [chSs] using h⟩
    | (cases sts with
       | nil => simp [chSs] at h
       | cons st sts => simp only [chSs, Bool.and_eq_true] at h; exact .inr ⟨st, sts, rfl, h.1, h.2⟩)
theorem ps_sasg (t0 : Tg) (e : C) {sc : Scope} {st : Stmt} {E : SX} {X : Cx} (g : Gd N nm Φ XR lv md E false q sc X) (h : chS N nm md (.asg t0 e) sc st = true) : PS X st (tS ⟨X.K, q⟩ XR Φ E (.asg t0 e)) := by
  cases st <;> try (simp [chS] at h; done)
  rename_i ts v p
  rcases ts with _ | ⟨t, _ | ⟨t2, ts⟩⟩ <;> try (simp [chS] at h; done)
  simp only [chS] at h
  cases t0 with
  | name i =>
    simp only [chAsg, Bool.and_eq_true] at h
    have h1 := h.1
    unfold EV.tgN at h1
    cases t <;> try (cases h1; done)
    exact ps_name g h.1 h.2
  | tup is =>
    simp only [chAsg, Bool.and_eq_true, Bool.not_eq_true', decide_eq_true_eq] at h
    obtain ⟨⟨⟨⟨hc, h1⟩, h2⟩, h3⟩, h4⟩ := h
    replace h : ((chTg N false sc (.tup is) _ = true ∧ chE N nm md e sc v = true) ∧ isComp v = false) ∧ isTup v = false := ⟨⟨⟨h1, h2⟩, h3⟩, h4⟩
    refine ps_asg (peE e g h.1.1.2) (g.tg hc h.1.1.1) ?_ ?_ ?_
    · unfold swapsWithSole
      exact noSwap h.1.2
    · cases v <;> first | (cases t <;> rfl) | (simp [isTup] at h)
    · have h1 := h.1.1.1
      unfold chTg at h1
      cases t <;> try (cases h1; done)
      rfl
theorem ps_smvs (i j : Nat) {sc : Scope} {st : Stmt} {E : SX} {X : Cx} (g : Gd N nm Φ XR lv md E false q sc X) (h : chS N nm md (.mvs i j) sc st = true) : PS X st (tS ⟨X.K, q⟩ XR Φ E (.mvs i j)) := by
  cases st <;> try (simp [chS] at h; done)
  rename_i ts v p
  rcases ts with _ | ⟨t, _ | ⟨t2, ts⟩⟩ <;> try (simp [chS] at h; done)
  simp only [chS] at h
  cases v <;> try (simp [chMv] at h; done)
  simp only [chMv, Bool.and_eq_true] at h
  have h1 := h.1
  unfold EV.tgN at h1
  cases t <;> try (cases h1; done)
  obtain ⟨hi, hl⟩ := tgN_loc g h.1
  exact ps_set g.nd hi hl (g.slot h.2) rfl (.inl (g.fn rfl _))
theorem ps_saug (i : Nat) (n : Bool) (e : C) {sc : Scope} {st : Stmt} {E : SX} {X : Cx} (g : Gd N nm Φ XR lv md E false q sc X) (h : chS N nm md (.aug i n e) sc st = true) : PS X st (tS ⟨X.K, q⟩ XR Φ E (.aug i n e)) := by
  cases st <;> try (cases n <;> simp [chS] at h; done)
  rename_i t op v p
  cases t <;> try (cases n <;> simp [chS] at h; done)
  cases n
  · cases op <;> try (simp [chS] at h; done)
    simp only [chS, Bool.and_eq_true] at h
    obtain ⟨hi, hl⟩ := tgN_loc g h.1
    exact ps_aug g.nd hi hl (peE e g h.2) (by simpa using ip_add) (.inl (g.fn rfl _))
  · cases op <;> try (simp [chS] at h; done)
    simp only [chS, Bool.and_eq_true] at h
    obtain ⟨hi, hl⟩ := tgN_loc g h.1
    exact ps_aug g.nd hi hl (peE e g h.2) (by simpa using ip_sub) (.inl (g.fn rfl _))
theorem ps_sapp (i : Nat) (path : Cs) (e : C) {sc : Scope} {st : Stmt} {E : SX} {X : Cx} (g : Gd N nm Φ XR lv md E false q sc X) (h : chS N nm md (.app i path e) sc st = true) : PS X st (tS ⟨X.K, q⟩ XR Φ E (.app i path e)) := by
  cases st <;> try (simp [chS] at h; done)
  rename_i v p
  cases v <;> try (simp [chS] at h; done)
  rename_i f as ks cp
  cases f <;> try (simp [chS] at h; done)
  rcases as with _ | ⟨a, _ | ⟨a2, as⟩⟩ <;> rcases ks with _ | ⟨k, ks⟩ <;> try (simp [chS] at h; done)
  simp only [chS, Bool.and_eq_true, decide_eq_true_eq] at h
  obtain ⟨⟨⟨rfl, h2⟩, h3⟩, h4⟩ := h
  have st := chE_star h3
  exact ps_expr (pe_bm PySem.F.plainAttrs_list PySem.F.slot_list_append PySem.F.type_list_append mt_append (peP i path g h2) (pa_cons (peE e g.zero h3) pa_nil (star_of st)) (chP_base h2 _ _) (few st) h4 (star_of st) rfl) rfl
theorem ps_sput (i : Nat) (path : Cs) (k e : C) {sc : Scope} {st : Stmt} {E : SX} {X : Cx} (g : Gd N nm Φ XR lv md E false q sc X) (h : chS N nm md (.put i path k e) sc st = true) : PS X st (tS ⟨X.K, q⟩ XR Φ E (.put i path k e)) := by
  cases st <;> try (simp [chS] at h; done)
  rename_i ts v p
  rcases ts with _ | ⟨t, _ | ⟨t2, ts⟩⟩ <;> try (simp [chS] at h; done)
  simp only [chS] at h
  cases t <;> try (simp [chPut] at h; done)
  rename_i r y p2
  simp only [chPut, Bool.and_eq_true] at h
  refine ps_asg (peE e g h.2) (pg_sub (peP i path g h.1.1) (peE k g.zero h.1.2) (putA (by have := g.units; omega)) ?_) noSwap2 ?_ rfl
  · intro w
    cases y <;> first | rfl | exact absurd rfl (chE_slice h.1.2 _ _ _ _)
  · cases v <;> rfl
theorem ps_saugp (i : Nat) (path : Cs) (k : C) (n : Bool) (e : C) {sc : Scope} {st : Stmt} {E : SX} {X : Cx} (g : Gd N nm Φ XR lv md E false q sc X) (h : chS N nm md (.augp i path k n e) sc st = true) : PS X st (tS ⟨X.K, q⟩ XR Φ E (.augp i path k n e)) := by
  cases st <;> try (cases n <;> simp [chS] at h; done)
  rename_i t op v p
  cases t <;> try (cases n <;> simp [chS] at h; done)
  rename_i r y p2
  cases n
  · cases op <;> try (simp [chS] at h; done)
    simp only [chS, Bool.and_eq_true] at h
    refine ps_augS (peP i path g h.1.1) (peE k g.zero h.1.2) (getA (by have := g.units; omega)) (peE e g.zero h.2) (by simpa using ip_add) (putA (by have := g.units; omega)) ?_
    intro a b c
    cases y <;> first | rfl | exact absurd rfl (chE_slice h.1.2 _ _ _ _)
  · cases op <;> try (simp [chS] at h; done)
    simp only [chS, Bool.and_eq_true] at h
    refine ps_augS (peP i path g h.1.1) (peE k g.zero h.1.2) (getA (by have := g.units; omega)) (peE e g.zero h.2) (by simpa using ip_sub) (putA (by have := g.units; omega)) ?_
    intro a b c
    cases y <;> first | rfl | exact absurd rfl (chE_slice h.1.2 _ _ _ _)
theorem ps_sexpr (e : C) {sc : Scope} {st : Stmt} {E : SX} {X : Cx} (g : Gd N nm Φ XR lv md E false q sc X) (h : chS N nm md (.expr e) sc st = true) : PS X st (tS ⟨X.K, q⟩ XR Φ E (.expr e)) := by
  cases st <;> try (simp [chS] at h; done)
  simp only [chS, Bool.and_eq_true, Bool.not_eq_true'] at h
  exact ps_expr (peE e g h.1) (noSwap h.2)
theorem ps_sret (e : C) {sc : Scope} {st : Stmt} {E : SX} {X : Cx} (g : Gd N nm Φ XR lv md E false q sc X) (h : chS N nm md (.ret e) sc st = true) : PS X st (tS ⟨X.K, q⟩ XR Φ E (.ret e)) := by
  cases st <;> try (simp [chS] at h; done)
  rename_i v p
  cases v <;> try (simp [chS] at h; done)
  exact ps_ret (peE e g h)
theorem ps_sretn  {sc : Scope} {st : Stmt} {E : SX} {X : Cx} (g : Gd N nm Φ XR lv md E false q sc X) (h : chS N nm md (.retn ) sc st = true) : PS X st (tS ⟨X.K, q⟩ XR Φ E (.retn )) := by
  cases st <;> try (simp [chS] at h; done)
  rename_i v p
  cases v <;> try (simp [chS] at h; done)
  exact ps_retN
theorem ps_sretmv (i : Nat) {sc : Scope} {st : Stmt} {E : SX} {X : Cx} (g : Gd N nm Φ XR lv md E false q sc X) (h : chS N nm md (.retmv i) sc st = true) : PS X st (tS ⟨X.K, q⟩ XR Φ E (.retmv i)) := by
  cases st <;> try (simp [chS] at h; done)
  rename_i v p
  cases v <;> try (simp [chS] at h; done)
  rename_i v
  cases v <;> try (simp [chS] at h; done)
  exact ps_ret (g.slot h)
theorem ps_sbrk  {sc : Scope} {st : Stmt} {E : SX} {X : Cx} (g : Gd N nm Φ XR lv md E false q sc X) (h : chS N nm md (.brk ) sc st = true) : PS X st (tS ⟨X.K, q⟩ XR Φ E (.brk )) := by
  cases st <;> try (simp [chS] at h; done)
  exact ps_break
theorem ps_scont  {sc : Scope} {st : Stmt} {E : SX} {X : Cx} (g : Gd N nm Φ XR lv md E false q sc X) (h : chS N nm md (.cont ) sc st = true) : PS X st (tS ⟨X.K, q⟩ XR Φ E (.cont )) := by
  cases st <;> try (simp [chS] at h; done)
  exact ps_continue
theorem ps_spass  {sc : Scope} {st : Stmt} {E : SX} {X : Cx} (g : Gd N nm Φ XR lv md E false q sc X) (h : chS N nm md (.pass ) sc st = true) : PS X st (tS ⟨X.K, q⟩ XR Φ E (.pass )) := by
  cases st <;> try (simp [chS] at h; done)
  exact ps_pass
theorem ps_sfrz (i : Nat) {sc : Scope} {st : Stmt} {E : SX} {X : Cx} (g : Gd N nm Φ XR lv md E false q sc X) (h : chS N nm md (.frz i) sc st = true) : PS X st (tS ⟨X.K, q⟩ XR Φ E (.frz i)) := by simp [chS] at h
theorem ps_sapop (i j : Nat) (k : C) {sc : Scope} {st : Stmt} {E : SX} {X : Cx} (g : Gd N nm Φ XR lv md E false q sc X) (h : chS N nm md (.apop i j k) sc st = true) : PS X st (tS ⟨X.K, q⟩ XR Φ E (.apop i j k)) := by
  cases st <;> try (simp [chS] at h; done)
  rename_i v p
  simp only [chS] at h
  unfold chApop at h
  split at h
  rotate_left
  · cases h
  rename_i r rp m ap a cp e1
  split at h
  rotate_left
  · cases h
  rename_i r2 rp2 m2 ap2 a2 cp2 e2
  obtain ⟨rfl, h6⟩ := unMeth_inv e1
  obtain ⟨ea, h7⟩ := unMeth_inv e2
  simp only at ea h6 h7
  subst ea
  simp only [Bool.and_eq_true, decide_eq_true_eq] at h
  obtain ⟨⟨⟨⟨rfl, rfl⟩, h3⟩, h4⟩, h5⟩ := h
  have st := chE_star h5
  have inner := pe_bm (o := .Name r2 rp2) PySem.F.plainAttrs_list PySem.F.slot_list_pop PySem.F.type_list_pop mt_popAt (g.slot h4) (pa_cons (peE k g.zero h5) pa_nil (star_of st)) rfl (few st) h7 (star_of st) rfl
  exact ps_expr (pe_bm (o := .Name r rp) PySem.F.plainAttrs_list PySem.F.slot_list_append PySem.F.type_list_append mt_append (g.slot h3) (pa_cons inner pa_nil rfl) rfl rfl h6 rfl rfl) rfl
theorem ps_seach (i gi : Nat) (e : C) {sc : Scope} {st : Stmt} {E : SX} {X : Cx} (g : Gd N nm Φ XR lv md E false q sc X) (h : chS N nm md (.each i gi e) sc st = true) : PS X st (tS ⟨X.K, q⟩ XR Φ E (.each i gi e)) := by
  cases st <;> try (simp [chS] at h; done)
  rename_i t x b o p
  cases o <;> try (simp [chS] at h; done)
  simp only [chS] at h
  unfold chEach at h
  split at h
  rotate_left
  · cases h
  rename_i r rp v vp
  simp only [Bool.and_eq_true, decide_eq_true_eq] at h
  obtain ⟨⟨⟨hc, h1⟩, h2⟩, h⟩ := h
  split at h
  rotate_left
  · cases h
  rename_i r2 rp2 m ap a cp e1
  obtain ⟨rfl, h6⟩ := unMeth_inv e1
  simp only at h6
  simp only [Bool.and_eq_true, decide_eq_true_eq] at h
  obtain ⟨⟨rfl, h4⟩, h5⟩ := h
  have st := chE_star h5
  have body := ps_expr (pos := vp) (pe_bm (o := .Name r2 rp2) PySem.F.plainAttrs_list PySem.F.slot_list_append PySem.F.type_list_append mt_append (g.slot h4) (pa_cons (peE e g.zero h5) pa_nil (star_of st)) rfl (few st) h6 (star_of st) rfl) rfl
  exact ps_for g.po (g.calm hc) (pi_seq (g.slot h1)) (g.tgN h2) (pss_cons body pss_nil) (folded rfl)
theorem psB : ∀ (b : TB) {sts : List Stmt}, Gd N nm Φ XR lv md E false q sc X → chB N nm md b sc sts = true → PSs X sts (tB ⟨X.K, q⟩ XR Φ E b)
  | .nil, sts, g, h => by
    cases sts <;> try (simp [chB] at h; done)
    exact pss_nil
  | .ret e, sts, g, h => by
    rcases sts with _ | ⟨st, _ | ⟨s2, sts⟩⟩ <;> try (simp [chB] at h; done)
    all_goals cases st <;> try (simp [chB] at h; done)
    rename_i v p
    cases v <;> try (simp [chB] at h; done)
    simp only [chB] at h
    exact (pss_cons (ps_ret (peE e g h)) pss_nil : PSs X _ (tSeq (tRet (tE ⟨X.K, q⟩ XR Φ E e)) tNext))
  | .expr e b, sts, g, h => by
    rcases sts with _ | ⟨st, sts⟩ <;> try (simp [chB] at h; done)
    cases st <;> try (simp [chB] at h; done)
    simp only [chB, Bool.and_eq_true, Bool.not_eq_true'] at h
    exact pss_cons (ps_expr (peE e g h.1.1) (noSwap h.1.2)) (psB b g h.2)
  | .ife t a b, sts, g, h => by
    rcases sts with _ | ⟨st, sts⟩ <;> try (simp [chB] at h; done)
    cases st <;> try (simp [chB] at h; done)
    rename_i e x y p
    cases y <;> try (simp [chB] at h; done)
    simp only [chB, Bool.and_eq_true] at h
    exact pss_cons (ps_if (peT t g h.1.1) (psB a g h.1.2) pss_nil) (psB b g h.2)
theorem names_of {c : Str} (g : Gd N nm Φ XR lv md E blk q sc X) (hg : glB sc c = true) (hd : (c == ("__debug__" : Str)) = false) (h : c = ("ValueError" : Str) ∨ nm.has (.cls c) = true) : Names X c (clsU X.K c) := by
  refine ⟨g.gl hg, hd, ?_⟩
  by_cases e : c = "ValueError"
  · have e2 : clsU X.K c = .type "ValueError" := by unfold clsU; rw [if_pos e]
    rw [e2]
    subst e
    exact .inr ⟨g.bi _ (by decide), boot_VE, by decide⟩
  · have e2 : clsU X.K c = .ref (He.ga X.K c) := by unfold clsU; rw [if_neg e]
    rw [e2]
    exact .inl (g.fact (h.resolve_left e)).1
theorem Gd.tr (g : Gd N nm Φ XR lv md E false q sc X) (hc : md = .c) {W : WX} {pn : List (Addr × Obj)} {xe : Value → Shared → Prop} (tk : L2N.Takes (X.tr pn xe) W) (po : PassesOwn (model X.prog X.w) X.A X.env xe) : Gd N nm Φ XR lv md (WE W) false q sc (X.tr pn xe) :=
  ⟨g.eN, g.nd, g.eS, g.kind, g.calm, g.room, g.units, fun h => absurd hc h, (fun h => by rw [hc] at h; cases h), g.fn, g.own, po, tk, g.bi, g.fns, g.mts, g.inis, g.xis, g.fcs⟩
theorem Gd.suite (g : Gd N nm Φ XR lv md E false q sc X) (hc : md = .c) {a : Addr} {oe : Obj} {cls : Value} {d : Option Addr} {pn : List (Addr × Obj)} (hz : L2N.Zn cls d oe) (hf : ∃ vs, oe.data = .fields vs) : Gd N nm Φ XR lv .x E0' false ⟨a, cls, d⟩ sc (X.suite a ((a, oe) :: pn)) :=
  ⟨g.eN, g.nd, g.eS, g.kind, (fun h => nomatch h), (fun h => nomatch h), g.units, fun _ => ⟨L2H.roomH_mark (g.room hc) _, (a, oe), ⟨rfl, hf.imp fun vs e => ⟨e, hz.2.2 vs e⟩⟩, List.mem_cons_self⟩, fun _ => ⟨oe, pn, X, rfl, hz.zc, hf⟩, g.fn, g.own, PassesOwn.never, takes0N, g.bi, g.fns, g.mts, g.inis, g.xis, g.fcs⟩
mutual
theorem psS : ∀ (s : EV.S) {md : Md} {q : XQ} {sc : Scope} {st : Stmt} {E : SX} {X : Cx}, Gd N nm Φ XR lv md E false q sc X → chS N nm md s sc st = true → PS X st (tS ⟨X.K, q⟩ XR Φ E s)
  | .asg t0 e, md, q, sc, st, E, X, g, h => ps_sasg t0 e g h
  | .mvs i j, md, q, sc, st, E, X, g, h => ps_smvs i j g h
  | .aug i n e, md, q, sc, st, E, X, g, h => ps_saug i n e g h
  | .app i path e, md, q, sc, st, E, X, g, h => ps_sapp i path e g h
  | .put i path k e, md, q, sc, st, E, X, g, h => ps_sput i path k e g h
  | .augp i path k n e, md, q, sc, st, E, X, g, h => ps_saugp i path k n e g h
  | .expr e, md, q, sc, st, E, X, g, h => ps_sexpr e g h
  | .ife t a b, md, q, sc, st, E, X, g, h => by
    cases st <;> try (simp [chS] at h; done)
    simp only [chS, Bool.and_eq_true] at h
    exact ps_if (peT t g h.1.1) (psSs a g h.1.2) (psSs b g h.2)
  | .whl n t b, md, q, sc, st, E, X, g, h => by
    cases st <;> try (simp [chS] at h; done)
    rename_i e x y p
    cases y <;> try (simp [chS] at h; done)
    simp only [chS, Bool.and_eq_true] at h
    exact ps_while g.po (peT t g h.1) (psSs b g h.2)
  | .fr it tg b, md, q, sc, st, E, X, g, h => by
    cases st <;> try (simp [chS] at h; done)
    rename_i t e x y p
    cases y <;> try (simp [chS] at h; done)
    simp only [chS, Bool.and_eq_true, decide_eq_true_eq] at h
    obtain ⟨⟨⟨hc, h1⟩, h2⟩, h3⟩ := h
    exact ps_for g.po (g.calm hc) (peI it g h1) (g.tg hc h2) (psSs b g h3) (folded (chI_set h1))
  | .ret e, md, q, sc, st, E, X, g, h => ps_sret e g h
  | .retn , md, q, sc, st, E, X, g, h => ps_sretn  g h
  | .retmv i, md, q, sc, st, E, X, g, h => ps_sretmv i g h
  | .brk , md, q, sc, st, E, X, g, h => ps_sbrk  g h
  | .cont , md, q, sc, st, E, X, g, h => ps_scont  g h
  | .pass , md, q, sc, st, E, X, g, h => ps_spass  g h
  | .frz i, md, q, sc, st, E, X, g, h => ps_sfrz i g h
  | .apop i j k, md, q, sc, st, E, X, g, h => ps_sapop i j k g h
  | .each i gi e, md, q, sc, st, E, X, g, h => ps_seach i gi e g h
  | .sfld i c n e, md, q, sc, st, E, X, g, h => by
    cases st <;> try (simp [chS] at h; done)
    rename_i ts v p
    rcases ts with _ | ⟨tg, _ | ⟨t2, ts⟩⟩ <;> try (simp [chS] at h; done)
    simp only [chS] at h
    unfold chSfld at h
    split at h
    rotate_left
    · cases h
    simp only [Bool.and_eq_true, decide_eq_true_eq] at h
    obtain ⟨⟨⟨rfl, h2⟩, h3⟩, h4⟩ := h
    obtain ⟨f1, f2⟩ := g.fact h3
    exact ps_fldC f1 f2 (g.slot h2) (peE e g h4) (by cases v <;> rfl)
  | .raise c f es, md, q, sc, st, E, X, g, h => by
    cases st <;> try (simp [chS] at h; done)
    rename_i v cs p
    cases v <;> try (simp [chS] at h; done)
    cases cs <;> try (simp [chS] at h; done)
    simp only [chS] at h
    unfold chRaise at h
    split at h
    rotate_left
    · cases h
    rename_i a cs x np e xs rp
    simp only [Bool.and_eq_true, decide_eq_true_eq, nmB, Bool.not_eq_true'] at h
    obtain ⟨⟨⟨⟨⟨⟨⟨hc, rfl⟩, h2⟩, h3⟩, h4⟩, h5⟩, h6⟩, h7⟩ := h
    obtain ⟨f1, f2, f3, f4⟩ := g.fact h2
    obtain ⟨fd, ps, k, hk, F, b⟩ := g.xis f _ h3
    have st := chE_star h6
    exact L2N.ps_raise (g.calm hc) g.tk (pmk_N f2 f3 f4 (F q) ((g.room hc).mono hk) b cx0N (g.gl h4) f1 (pa_cons (peE a g h6) (peL cs g h7) (star_of st)) h5.1 (star_of st) (noStars h7))
  | .rev i, md, q, sc, st, E, X, g, h => by
    simp only [chS] at h
    split at h
    rotate_left
    · cases h
    rename_i r hr
    obtain ⟨rfl, h6⟩ := unMeth0_inv hr
    obtain ⟨r, rp, m, ap, cp, p⟩ := r
    simp only [Bool.and_eq_true, decide_eq_true_eq] at h
    obtain ⟨rfl, h2⟩ := h
    exact ps_expr (pe_bm0 (o := .Name r rp) PySem.F.plainAttrs_list PySem.F.slot_list_reverse PySem.F.type_list_reverse mt_reverse (g.slot h2) rfl h6) rfl
  | .tryx b i c hd, md, q, sc, st, E, X, g, h => by
    simp only [chS] at h
    split at h
    rotate_left
    · cases h
    rename_i r hr
    obtain ⟨body, x, n, h0, hs⟩ := r
    obtain ⟨np, hp, p, rfl⟩ := unTry_inv hr
    simp only [Bool.and_eq_true, decide_eq_true_eq, nmB, Bool.not_eq_true', Bool.or_eq_true] at h
    obtain ⟨⟨⟨⟨⟨⟨⟨⟨hc, rfl⟩, h2⟩, h3⟩, h4⟩, h5⟩, h6⟩, h7⟩, h8⟩ := h
    obtain ⟨o1, o2⟩ := g.own rfl
    exact L2N.ps_try_as (c := clsU X.K x) (tb := fun W => tB ⟨X.K, q⟩ XR Φ (WE W) b) (ts := fun a cls d => tSs ⟨X.K, ⟨a, cls, d⟩⟩ XR Φ E0' hd) o1 o2 g.nd (by rw [g.eN]; exact h5) (by show X.env.scope.names.lookup n = _; rw [g.eS]; exact h6) (names_of g h2 h3.1 h4) g.tk
      (fun W pn xe tk po => psB b (g.tr hc tk po) h7) (fun a oe cls d pn hz hf => psSs hd (g.suite hc hz hf) h8)
theorem psSs : ∀ (ss : Ss) {md : Md} {q : XQ} {sc : Scope} {sts : List Stmt} {E : SX} {X : Cx}, Gd N nm Φ XR lv md E false q sc X → chSs N nm md ss sc sts = true → PSs X sts (tSs ⟨X.K, q⟩ XR Φ E ss)
  | .nil, md, q, sc, sts, E, X, g, h => by
    cases sts <;> try (simp [chSs] at h; done)
    exact pss_nil
  | .cons s ss, md, q, sc, sts, E, X, g, h => by
    rcases chSs_inv h with ⟨i, e, h2⟩ | ⟨st, sts', e, h1, h2⟩
    · have r := psSs ss g h2
      have e2 : tS ⟨X.K, q⟩ XR Φ E s = tNext := by rw [e]; rfl
      show PSs X sts (tSeq (tS ⟨X.K, q⟩ XR Φ E s) (tSs ⟨X.K, q⟩ XR Φ E ss))
      rw [e2]
      exact r
    · rw [e]
      exact pss_cons (psS s g h1) (psSs ss g h2)
end
end EV
namespace EV
open PySem PySem.Spec PyProof.Rows L2
/-! ### defs -/
def biNames : List Str := ["len", "abs", "int", "list", "tuple", "sorted", "isinstance", "range", "bool", "str", "min", "ValueError", "enumerate"]
def scopeB (N ps : List Str) (sc : Scope) : Bool :=
  (match sc.kind with | .function => true | _ => false) && !sc.isCoroutine && !sc.isGenerator && decide N.Nodup && decide (N.take ps.length = ps) &&
    (ps.all fun x => decide (sc.names.lookup x = some .local) || decide (sc.names.lookup x = some .cell)) && (sc.names.all fun y => decide (y.2 ≠ .free))
theorem scopeB_ok {N ps : List Str} {sc : Scope} (h : scopeB N ps sc = true) : FnScope N ps sc := by
  simp only [scopeB, Bool.and_eq_true, Bool.not_eq_true', decide_eq_true_eq, List.all_eq_true, Bool.or_eq_true] at h
  obtain ⟨⟨⟨⟨⟨⟨h1, h2⟩, h3⟩, h4⟩, h5⟩, h6⟩, h7⟩ := h
  refine ⟨?_, h2, h3, h4, h5, h6, h7⟩
  split at h1
  · assumption
  · cases h1
/-- what a text's defs so far keep -/
structure Gs (nm : Nm) (Φ : Nat → FD) (lv : Nat) (P : Program) (w : World) (K : PySem.W.Frag) (mg : Str → Option Value) (base : Heap) : Prop where
  bi : ∀ x : Str, x ∈ biNames → mg x = none
  fns : ∀ f x, nm.fn f = some x → ∃ a fd ps k, k ≤ lv ∧ (∀ q, FnOk P w K mg base (L2N.CX P w) k a fd ps (spF ⟨K, q⟩ K (Φ f).n (Φ f).sem)) ∧ (nm.hot f = true → ∀ q, L2H.FnH P w K mg base (L2N.CX P w) k a fd ps (spF ⟨K, q⟩ K (Φ f).n (Φ f).sem)) ∧ mg x = some (.ref a) ∧ PySem.W.keepIn K (.ref a) = true ∧ Binds K fd ps []
  mts : ∀ f κ c n, nm.mt f = some (κ, c, n) → ∃ fd ps k, k + 1 ≤ lv ∧ (∀ q, FnOk P w K mg base (L2N.CX P w) k (adr K κ c n) fd ps (spF ⟨K, q⟩ K (Φ f).n (Φ f).sem)) ∧ Binds K fd ps []
  inis : ∀ f c, nm.ini f = some c → ∃ fd ps k, k + 1 ≤ lv ∧ (∀ q, FnOk P w K mg base (L2N.CX P w) k (adr K .p c "__init__") fd ps (spI ⟨K, q⟩ K c (Φ f).n (Φ f).sem)) ∧ Binds K fd ps []
  xis : ∀ f c, nm.xi f = some c → ∃ fd ps k, k + 1 ≤ lv ∧ (∀ q, FnOk P w K mg base (L2N.CX P w) k (adr K .p c "__init__") fd ps (spX ⟨K, q⟩ c (Φ f).n (Φ f).sem)) ∧ Binds K fd ps []
  fcs : ∀ f ∈ nm.fc, f.holds K mg
section
variable {P : Program} {w : World} {K : PySem.W.Frag} {mg : Str → Option Value} {base : Heap} {nm : Nm} {Φ : Nat → FD} {lv : Nat} {N ps : List Str}
theorem Gs.gd (g : Gs nm Φ lv P w K mg base) {qual : Str} {scope : Scope} {f : Addr} {cdv : Value} {A : Around} {outer : List PySem.Env} {s : Shared} {H : Hp} {E : XK} {q : XQ} (S : FnScope N ps scope) (hr : Room lv (A.deeper (envOfC qual scope s.heap.objs.size f cdv))) :
    Gd N nm Φ K lv .c (kE E) false q scope (cxOf (L2N.CX P w) P w K mg base N qual scope f cdv A outer s H E) where
  eN := rfl
  nd := S.nd
  eS := rfl
  kind := S.kind
  calm := fun _ => rfl
  room := fun _ => hr
  units := by have := hr.un; show (A.deeper (envOfC qual scope s.heap.objs.size f cdv)).units + 66 < cLine; omega
  hot := fun h => absurd rfl h
  xq := fun h => nomatch h
  fn := fun _ _ => rfl
  own := fun _ => ⟨rfl, rfl⟩
  po := passes_of rfl
  tk := L2N.takes_of (E := E) rfl rfl rfl rfl
  bi := g.bi
  fns := g.fns
  mts := g.mts
  inis := g.inis
  xis := g.xis
  fcs := g.fcs
theorem Gs.gdH (g : Gs nm Φ lv P w K mg base) {qual : Str} {scope : Scope} {f : Addr} {cdv : Value} {A : Around} {outer : List PySem.Env} {s : Shared} {H : Hp} {E : XK} {q : XQ} {p : Addr × Obj} (S : FnScope N ps scope) (hp : L2H.Hot1 A p) (hr : L2H.RoomH lv (A.deeper (envOfC qual scope s.heap.objs.size f cdv))) :
    Gd N nm Φ K lv .h (kE E) false q scope (L2H.cxH (L2N.CX P w) P w K mg base N qual scope f cdv A outer s H E p) where
  eN := rfl
  nd := S.nd
  eS := rfl
  kind := S.kind
  calm := fun h => nomatch h
  room := fun h => nomatch h
  units := by have := hr.un; show (A.deeper (envOfC qual scope s.heap.objs.size f cdv)).units + 66 < cLine; omega
  hot := fun _ => ⟨hr, p, hp, List.mem_cons_self⟩
  xq := fun h => nomatch h
  fn := fun _ _ => rfl
  own := fun _ => ⟨rfl, rfl⟩
  po := passes_of rfl
  tk := L2N.takes_of (E := E) rfl rfl rfl rfl
  bi := g.bi
  fns := g.fns
  mts := g.mts
  inis := g.inis
  xis := g.xis
  fcs := g.fcs
theorem at_start {ds : List D} {n i : Nat} {d : D} (e : (ds.map some ++ List.replicate n (none : Option D))[i]? = some (some d)) : ds[i]? = some d := by
  by_cases h : i < ds.length
  · rw [List.getElem?_append_left (by simpa using h), List.getElem?_map] at e
    cases h2 : ds[i]? with
    | none => rw [h2] at e; cases e
    | some d' => rw [h2] at e; cases e; rfl
  · rw [List.getElem?_append_right (by simpa using h), List.getElem?_replicate] at e
    split at e <;> cases e
theorem start_at {Kx : Kx} {S H : Hp} {ds : List D} {vs : List V} (o : Owns Kx S H ds vs []) {N : List Str} {i : Nat} {d : D} (hd : ds[i]? = some d) : ∃ v, (L2.start N vs)[i]? = some (some v) ∧ Own Kx S H d v [] := by
  obtain ⟨v, B1, B2, B3, h1, h2, h3⟩ := Owns.get ds vs [] i d o hd
  have : B2 = [] := by
    have := h2.symm
    simp at this
    exact this.2.1
  subst this
  refine ⟨v, ?_, h3⟩
  have hl : i < vs.length := (List.getElem?_eq_some_iff.mp h1).1
  unfold L2.start
  rw [List.getElem?_append_left (by simpa using hl), List.getElem?_map, h1]; rfl
theorem At.start {K : Kz} {S H : Hp} {ds : List D} {vs : List V} {N : List Str} (hx : K.x = none) (hs : K.slf = none) (s : Same S H) (o : Owns K S H ds vs []) (z : isZs ds = true) :
    At K S H S S H (L2.start N vs) (ds.map some ++ List.replicate (N.length - ds.length) none) (fun _ => []) := by
  have l := Owns.length ds vs [] o
  refine ⟨fun p e => (by rw [hs] at e; cases e), ⟨fun x e => (by rw [hx] at e; cases e), s, by simp [L2.start, l], fun i d e => ?_, fun _ _ => rfl, fun _ => List.nodup_nil, (fun _ _ _ _ z => nomatch z), (fun _ _ z => nomatch z)⟩, Fut.refl s, Same.refl _, (fun _ _ z => nomatch z), fun i d e => ?_⟩
  · exact start_at o (at_start e)
  · exact isZ_clean d (isZs_at ds i d z (at_start e))
/-- a def of the text: what its skeleton does -/
theorem def_fn {x qual : Str} {st : Stmt} {f : Addr} {fd : FuncData} {Φ : Tab} {body : Ss} (F : Fun K x qual st f fd) (hS : scopeB N ps (defScope st) = true) (hb : chSs N nm .c body (defScope st) (defBody st) = true) (g : Gs nm Φ.fd lv P w K mg base) (fk : FK K Φ) (hξ : Φ.ξ = none) (q : XQ) :
    FnOk P w K mg base (L2N.CX P w) (lv + 1) f fd ps (spF ⟨K, q⟩ K ps.length fun ds => runF Φ N.length body ds) := by
  have S := scopeB_ok hS
  obtain ⟨oc, od, kV, doc, pm, an, cdv, ct, osl, rfl, lk, hcd⟩ := F.ex
  refine fn_of lk hcd S (fun vs H Q E h => h.1) fun A outer s H vs Q E hr h => ?_
  obtain ⟨hl, S0, ds, sm, ow, z, k⟩ := h
  refine ⟨_, psSs body (g.gd (q := q) (E := E) S hr) hb, ?_⟩
  refine corSs body E (K := ⟨⟨K, q⟩, none, none⟩) (Φ := Φ) fk hξ rfl (.inl rfl) (L := S0) (At.start rfl rfl sm ow z) ?_
  refine Kont.bind (show Kont K E H ((evSs Φ body _).bind _) _ from k) (Same.refl _) fun o _ k => ?_
  cases o with
  | nx env => exact fun σ S H As a => KE.non k a.fut
  | rt d => exact k
  | bk env => exact k.elim
  | ct env => exact k.elim
/-- .. called in an except suite -/
theorem def_hot {x qual : Str} {st : Stmt} {f : Addr} {fd : FuncData} {Φ : Tab} {body : Ss} (F : Fun K x qual st f fd) (hS : scopeB N ps (defScope st) = true) (hb : chSs N nm .h body (defScope st) (defBody st) = true) (g : Gs nm Φ.fd lv P w K mg base) (fk : FK K Φ) (hξ : Φ.ξ = none) (q : XQ) :
    L2H.FnH P w K mg base (L2N.CX P w) (lv + 1) f fd ps (spF ⟨K, q⟩ K ps.length fun ds => runF Φ N.length body ds) := by
  have S := scopeB_ok hS
  obtain ⟨oc, od, kV, doc, pm, an, cdv, ct, osl, rfl, lk, hcd⟩ := F.ex
  refine L2H.fn_ofH lk hcd S (fun vs H Q E h => h.1) fun A outer s H vs Q E p hp hr h => ?_
  obtain ⟨hl, S0, ds, sm, ow, z, k⟩ := h
  refine ⟨_, psSs body (g.gdH (q := q) (E := E) S hp hr) hb, ?_⟩
  refine corSs body E (K := ⟨⟨K, q⟩, none, none⟩) (Φ := Φ) fk hξ rfl (.inl rfl) (L := S0) (At.start rfl rfl sm ow z) ?_
  refine Kont.bind (show Kont K E H ((evSs Φ body _).bind _) _ from k) (Same.refl _) fun o _ k => ?_
  cases o with
  | nx env => exact fun σ S H As a => KE.non k a.fut
  | rt d => exact k
  | bk env => exact k.elim
  | ct env => exact k.elim
theorem At.startI {c : Str} {q : XQ} {S Hb : Hp} {ds : List D} {ws : List V} {p dx : Addr} (hp : Hb p = none) (hdx : Hb dx = none) (hne : dx ≠ p) (sm : Same S Hb) (o : Owns ⟨K, q⟩ S Hb ds ws []) (z : isZs ds = true) :
    At ⟨⟨K, q⟩, none, some p⟩ S Hb S S (upd (upd Hb dx (.own p)) p (.ins (He.ga K c) dx [])) (L2.start N (.ref p :: ws)) (some (.obj .o c [] []) :: (ds.map some ++ List.replicate (N.length - (ds.length + 1)) none)) (fun i => if i = 0 then [p, dx] else []) := by
  have l := Owns.length ds ws [] o
  have n2 : upd Hb dx (.own p) p = none := by rw [upd_ne (Ne.symm hne)]; exact hp
  have fu : Fut S Hb S (upd (upd Hb dx (.own p)) p (.ins (He.ga K c) dx [])) := ((Fut.refl sm).upd hdx).upd n2
  refine ⟨fun p' e => ?_, ⟨(fun x e => nomatch e), fu.sub, by simp [L2.start, l], fun i d e => ?_, fun i e => ?_, fun i => ?_, fun i j hij a ha => ?_, fun i a ha => ?_⟩, fu, Same.refl _, fun i a ha => ?_, fun i d e => ?_⟩
  · cases e; simp [L2.start]
  · cases i with
    | zero =>
      simp at e
      subst e
      exact ⟨.ref p, by simp [L2.start], p, dx, [], [], rfl, rfl, upd_same, (upd_ne hne).trans upd_same, ⟨rfl, List.nodup_nil⟩, rfl, rfl⟩
    | succ i =>
      have hd : ds[i]? = some d := at_start (by simpa using e)
      obtain ⟨v, B1, B2, B3, h1, h2, h3⟩ := Owns.get ds ws [] i d o hd
      have zd := isZs_at ds i d z hd
      refine ⟨v, ?_, (Own.ofZ d v B2 zd h3).2⟩
      have hl : i < ws.length := (List.getElem?_eq_some_iff.mp h1).1
      unfold L2.start
      rw [List.getElem?_append_left (by simpa using hl), List.getElem?_map, List.getElem?_cons_succ, h1]; rfl
  · cases i with
    | zero => exact absurd (show _ = _ from rfl) (e (.obj .o c [] []))
    | succ i => rfl
  · by_cases h : i = 0
    · simp [h, Ne.symm hne]
    · simp [h]
  · by_cases h : i = 0
    · have : j ≠ 0 := fun e => hij (by rw [h, e])
      simp [this]
    · simp [h] at ha
  · by_cases h : i = 0
    · simp [h] at ha
      rcases ha with rfl | rfl
      · exact Same.none sm hp
      · exact Same.none sm hdx
    · simp [h] at ha
  · by_cases h : i = 0
    · simp [h] at ha
      rcases ha with rfl | rfl
      · exact hp
      · exact hdx
    · simp [h] at ha
  · cases i with
    | zero =>
      simp at e
      subst e
      rfl
    | succ i => exact isZ_clean d (isZs_at ds i d z (at_start (by simpa using e)))
/-- a class's __init__ -/
theorem def_ini {x qual c : Str} {st : Stmt} {f : Addr} {fd : FuncData} {Φ : Tab} {body : Ss} (F : Fun K x qual st f fd) (hS : scopeB N ps (defScope st) = true) (hb : chSs N nm .c body (defScope st) (defBody st) = true) (hn : okSs body = true) (g : Gs nm Φ.fd lv P w K mg base) (fk : FK K Φ) (hξ : Φ.ξ = none) (q : XQ) :
    FnOk P w K mg base (L2N.CX P w) (lv + 1) f fd ps (spI ⟨K, q⟩ K c ps.length fun ds => runI Φ c N.length body ds) := by
  have S := scopeB_ok hS
  obtain ⟨oc, od, kV, doc, pm, an, cdv, ct, osl, rfl, lk, hcd⟩ := F.ex
  refine fn_of lk hcd S (fun vs H Q E h => h.1) fun A outer s H vs Q E hr h => ?_
  obtain ⟨hl, p, dx, ws, Hb, S0, ds, rfl, hp, hdx, hne, rfl, sm, ow, z, k⟩ := h
  refine ⟨_, psSs body (g.gd (q := q) (E := E) S hr) hb, ?_⟩
  refine corSs body E (K := ⟨⟨K, q⟩, none, some p⟩) (Φ := Φ) fk hξ rfl (.inr hn) (L := S0) (At.startI hp hdx hne sm ow z) ?_
  refine Kont.bind (show Kont K E Hb ((evSs Φ body _).bind _) _ from k) (Same.refl _) fun o _ k => ?_
  cases o with
  | nx env =>
    intro σ S1 H1 As a
    cases e : get env 0 with
    | st => simp only [e] at k; exact k.elim
    | ex x => unfold get at e; split at e <;> cases e
    | ok d =>
      simp only [e] at k
      obtain ⟨v, hv, o⟩ := a.sta.val 0 d (get_some e)
      have ha := a.anc p rfl
      rw [hv] at ha
      cases ha
      exact k S1 H1 (As 0) a.fut o ⟨a.sta.nd 0, fun b hb => ⟨a.new 0 b hb, a.sta.out 0 b hb⟩⟩
  | rt d => exact k.elim
  | bk env => exact k.elim
  | ct env => exact k.elim
end
end EV
/-! an own exception's __init__ that says super().__init__(text) first -/
namespace EV
open PySem PySem.Spec PyProof.Rows L2 NdefX
section
variable {X : Cx} {pins : List (Addr × Obj)} {σ : L2.St} {H : Hp} {s : Shared} {a C u : Addr} {us : List Value} {Q : Value → Shared → Prop} {E : Value → Shared → Prop} {A : Around}
/-- the bound ValueError.__init__ called: nothing of it is told -/
theorem ocall_ok (T : OexC X.K C) (I : Inv X pins σ H s) (e : H a = some (exo a C none)) (hu : s.heap.get? u = some (PySem.W.kxs_mw "ValueError.__init__" a)) (hl : us.length ≤ sizeLine) (h : ∀ s', Inv X pins σ H s' → Q .none s') :
    wpAny (model X.prog X.w) A (call (.ref u) us) Q E s := by
  obtain ⟨nm, q, N, bs, bm, sn, sub, ab, col, dd, k0, k1, k2, k3, k5, hC, hbm⟩ := T.cls
  obtain ⟨t1, ho⟩ := exo_at I.hok e
  have hC' := I.kIn _ _ hC
  obtain ⟨hp, g, d, t, os⟩ := s
  refine wpAny_call (codeAny_of_tree ?_)
  show wpAny _ A.in1 (callAny (.ref u) ⟨us, []⟩) _ _ _
  simp only [callAny]
  refine wpAny_bind (wpAny_load hu ?_)
  simp only [PySem.W.kxs_mw, show (Value.type "method-wrapper" == Value.type "method" || Value.type "method-wrapper" == Value.type "builtin_function_or_method" || Value.type "method-wrapper" == Value.type "method-wrapper") = true by decide, if_true]
  refine PySem.W.KFB.if_so (by decide) ?_
  refine wpAny_bind (PySem.W.check_bound_init F.excBase_ValueError.toExcCallFacts hC' ho rfl ?_)
  refine wpAny_bind (wpAny_pure (wpAny_pure ?_))
  refine ⟨plainId_quiet F.excBase_ValueError.init.plain _, codeAny_builtin F.excBase_ValueError.initEntry ?_⟩
  refine PySem.W.exc_init_tree (cls := .ref C) (t0 := t1) (dv := none) (c2 := .none) (c3 := .none) (b4 := .bool false) ho hl fun h' k hx _ => ?_
  have J := I.write (t' := t) (x := a) (e := a) (o := exo a C none) (by rw [e]; exact True.intro) (.inl rfl) k ⟨_, hx⟩ (exo_ok hx)
  have eu : upd H a (exo a C none) = H := by
    funext b
    by_cases hb : b = a
    · rw [hb, upd_same, e]
    · rw [upd_ne hb]
  rw [eu] at J
  exact h _ J
end
/-- what the written part says of such an __init__ -/
structure SupF (P : Program) (K : PySem.W.Frag) (mg : Str → Option Value) (f C : Addr) (fd : FuncData) (F : NF) (N ps : List Str) : Prop where
  lk : ∃ oc od osl doc pm ctv, K.lookup f = some ⟨oc, od, .func fd, osl⟩ ∧ fd = F.fd doc pm ctv
  cd : PySem.W.codeIn K (.ref F.c) F.qual = true
  file : ∃ ccl cdd vs ccs file tf, K.lookup F.c = some ⟨ccl, cdd, .fields vs, ccs⟩ ∧ vs[2]? = some (.str file tf) ∧ ((P.main.file : Str) == file) = true
  cell : ∃ cc cl cld csl, F.cl = [(("__class__" : Str), cc)] ∧ K.lookup cc = some ⟨cl, cld, .cell (some (.ref C)), csl⟩
  sup : F.scope.names.lookup ("super" : Str) = some .globalImplicit
  sg : mg ("super" : Str) = none
  top : (P.main.scope.names.lookup ("super" : Str)).isSome = false
  opq : PySem.W.nsIn K cStatics "thirdparty.any" = some none
  ini : PySem.W.ks_superIn K C C "__init__" = some (some (.builtin "ValueError.__init__"))
  slf : PySem.W.mroIn K C (.ref C) = some true
  bas : PySem.W.subIn K (.ref C) (.type "ValueError") = some true
  par : ∃ ar, (F.params.posonlyargs ++ F.params.args).head? = some ar ∧ ps.head? = some ar.arg
theorem boot_super : bootBuiltins "super" = some (.type "super") := by first | decide +kernel | kernel_rfl
section
variable {CX : CXT} {P : Program} {w : World} {K : PySem.W.Frag} {mg : Str → Option Value} {base : Heap} {N ps : List Str} {F : NF} {f C : Addr} {fd : FuncData} {k : Nat} {sp : Sp} {p0 p1 ap cp ep : Pos} {arg : Expr} {rest : List Stmt}
open PySem.W in
theorem supinit_ok (Z : SupF P K mg f C fd F N ps) (T : OexC K C) (S : NScope N ps ["__class__"] F.scope) (hb0 : F.body = .Expr (.Call (.Attribute (.Call (.Name "super" p0) [] [] p1) "__init__" ap) [arg] [] cp) ep :: rest)
    {pl : Sem Bool} (hev : ∀ env, eval (.Call (.Attribute (.Call (.Name "super" p0) [] [] p1) "__init__" ap) [arg] [] cp) env = (do
      let ov ← attributeBase (.Call (.Name "super" p0) [] [] p1) "__init__" env (eval (.Call (.Name "super" p0) [] [] p1) env)
      standAt ap.atName
      let (f, first) ← holding [ov] (getMethod ov "__init__" pl)
      callWith cp f first (backTo cp (starEach [arg] env)) []))
    (hst : ∀ env, starEach [arg] env = [(false, eval arg env)]) (len : ∀ vs H Q E, sp vs H Q E → vs.length = ps.length)
    (hb : ∀ (A : Around) (outer : List PySem.Env) (s : Shared) (H : Hp) (vs : List V) (Q : VK) (E : XK), Room k (A.deeper (envF F f s.heap.objs.size)) → sp vs H Q E →
      ∃ te t a ws, vs = .ref a :: ws ∧ H a = some (exo a C none) ∧ PE (ncx CX P w K mg base N F f A outer s H E) arg te ∧ PSs (ncx CX P w K mg base N F f A outer s H E) rest t ∧
        te (startF N vs [some (.ref C)]) H fun _ H1 => H1 a = some (exo a C none) ∧ t { nx := fun _ H' => Q .non H', rt := Q } (startF N vs [some (.ref C)]) H1) :
    FnOk P w K mg base CX (k + 1) f fd ps sp := by
  refine ⟨len, fun A outer s H args us vs Q E hr e0 hbd r hsp => ?_⟩
  have hl := len _ _ _ _ hsp
  obtain ⟨oc, od, osl, doc, pm, ctv, lk, rfl⟩ := Z.lk
  obtain ⟨cc, cl, cld, csl, ecl, hcc⟩ := Z.cell
  obtain ⟨ccl, cdd, vs0, ccs, file, tf, hcode, hvs, hfile⟩ := Z.file
  obtain ⟨ar, hp, har⟩ := Z.par
  have KX : K.In s.heap := e0.mod.kin.keeps fun b o e => (e0.bs b o e).1
  have lim : s.heap.NoLimit := e0.mod.nolimit.keeps fun b o e => (e0.bs b o e).1
  have hcc0 : base.get? cc = some ⟨cl, cld, .cell (some (.ref C)), csl⟩ := e0.mod.kin _ _ hcc
  have CA : CellsAt F.cl ["__class__"] [some (.ref C)] s.heap H := by
    refine ⟨rfl, fun y c e => ?_, fun x y c e1 e2 => ?_, fun i y e => ?_⟩
    · rw [ecl] at e
      have ec : c = cc := by
        by_cases h : y = "__class__"
        · subst h; simp [List.lookup] at e; exact e.symm
        · have : (y == ("__class__" : Str)) = false := by simpa using h
          simp [List.lookup, this] at e
      subst ec
      exact ⟨(e0.bs _ _ hcc0).2, _, _, (e0.bs _ _ hcc0).1, rfl⟩
    · rw [ecl] at e1 e2
      have h1 : x = "__class__" := by
        by_cases h : x = "__class__"
        · exact h
        · have : (x == ("__class__" : Str)) = false := by simpa using h
          simp [List.lookup, this] at e1
      have h2 : y = "__class__" := by
        by_cases h : y = "__class__"
        · exact h
        · have : (y == ("__class__" : Str)) = false := by simpa using h
          simp [List.lookup, this] at e2
      rw [h1, h2]
    · cases i with
      | zero =>
        simp at e
        subst e
        refine ⟨cc, by rw [ecl]; simp [List.lookup], fun v hv => ?_⟩
        simp at hv
        subst hv
        exact ⟨.ref C, rfl, _, (e0.bs _ _ hcc0).1, rfl⟩
      | succ i => simp at e
  obtain ⟨te, t, a, ws, rfl, ha, hE, hR, hq⟩ := hb A outer s H vs Q E (hr.deeper _) hsp
  refine ks_codeAny_call_defAt (fd := F.fd doc pm ctv) (body := F.body) (binds := ps.zip us) hr.depth (KX _ _ lk) rfl lim (codeRec_of KX Z.cd) rfl hbd S.nocell (fun y hy => S.par y.1 (List.of_mem_zip hy).1) (fun h₁ hns kp => ?_) S.co S.gen S.kind
  have I := inv_startN (CX := CX) (E := E) (f := f) (tk := s.toks + (ps.zip us).length) S hr.hd e0 hl r CA hns kp
  obtain ⟨nm, q, NA, bs, bm, sn, sub, ab, col, dd, k0, k1, k2, k3, k5, hC, hbm⟩ := T.cls
  obtain ⟨cdC, hcC⟩ : ∃ cd, clsIn K C = some cd := ⟨_, by unfold clsIn; rw [hC] <;> rfl⟩
  have KX1 : K.In h₁ := KX.keeps kp
  obtain ⟨t1, hoa⟩ := exo_at I.hok ha
  obtain ⟨mb, hmb1, hmb2⟩ := I.mod.blt
  have har2 : ps[0]? = some ar.arg := by rw [← List.head?_eq_getElem?]; exact har
  have hus0 : us[0]? = some (.ref a) := by
    cases r with
    | cons h _ => rw [show _ = Value.ref a from h]; rfl
  have ndP : ps.Nodup := by
    have q := S.nd.sublist (List.take_sublist (ps.length + 1) N)
    rw [show N.take (ps.length + 1) = ps ++ [("__class__" : Str)] from S.pre] at q
    exact (List.nodup_append.mp q).1
  show _root_.PySem.wpAt (model P w) (A.deeper (envF F f s.heap.objs.size)) (.func F.body (envF F f s.heap.objs.size)) (execs F.body (envF F f s.heap.objs.size)) _ _ _
  rw [hb0]
  refine ks_wpAt_execs_cons (ks_wpAt_Expr_any (ks_wpAt_MethodCall (pl := pl) ?_ (hev _)) I.quiet)
  refine ks_wpAt_super_base (env := envF F f s.heap.objs.size) Z.sup (S.frk _ (by simp)) rfl rfl (KX1 _ _ lk) rfl hp rfl (KX1 _ _ hcode) rfl hvs hfile Z.top ?_
  refine ks_loadName_global S.kind Z.sup (Calls.loadGlobal_builtin (I.mod.glob.keeps I.bk) Z.sg (hmb1.keeps I.bk) ((hmb2 _ (by decide)).trans boot_super) ⟨rfl, ?_⟩)
  refine wpAny_loadName_free S.kind (S.frk _ (by simp)) (show F.cl.lookup ("__class__" : Str) = some cc by rw [ecl]; simp [List.lookup]) ⟨_, KX1 _ _ hcc, rfl⟩ ?_
  refine wpAny_loadName_local S.kind (S.par _ (List.mem_of_getElem? har2)) hns (zip_look ndP har2 hus0) ?_
  refine ks_wpAny_isType_cls (KX1 _ _ hC) rfl ⟨rfl, ?_⟩
  refine ks_wpAny_call_super (KX1 _ _ hC) rfl hoa rfl (fun c z => by cases z) (looks_mroIn KX1 Z.slf) fun h' hso kk => ?_
  have I2 := I.kept (t' := s.toks + (ps.zip us).length) kk
  have KX2 : K.In h' := KX1.keeps kk
  have hoa2 := kk _ _ hoa
  have IA : InstAt h' a ({ cls := .ref C, dict := none, data := .fields #[.ref t1, .none, .none, .none, .bool false, .none] } : Obj) C none := ⟨hoa2, rfl, rfl, trivial⟩
  have hI : Looks (model P w) h' (isInstance (.ref a) (.type "ValueError")) true := IA.type.andThen (looks_subIn KX2 Z.bas)
  have hm : alongIn K "__init__" ((cdC.mro.dropWhile (· != .ref C)).drop 1) = some (some (.builtin "ValueError.__init__")) := by
    have h := Z.ini
    unfold ks_superIn at h
    rw [hcC] at h
    exact h
  refine kxs_getMethod kxs_ValueError hso (looks_opaque KX2 Z.opq) (l₀ := cdC.mro) (fun A Q E s k q => wpAny_bind ((looks_clsIn KX2 hcC) A _ E s k (wpAny_pure q))) rfl KX2 hm hI (ks_ne KX2 IA hcC) rfl ?_
  have I3 := I2.kept (t' := s.toks + (ps.zip us).length + 1) (h' := h'.push (kxs_mw "ValueError.__init__" a)) fun b u e => Heap.get?_push_of_some _ e
  have hu : (h'.push (kxs_mw "ValueError.__init__" a)).get? h'.objs.size = some (kxs_mw "ValueError.__init__" a) := Heap.get?_push_at rfl rfl
  have nu : H h'.objs.size = none := I2.hok.fresh (Nat.le_refl _)
  have I4 := I3.pins_of (pins' := [(h'.objs.size, kxs_mw "ValueError.__init__" a)]) fun p hp => by
    have ep : p = (h'.objs.size, kxs_mw "ValueError.__init__" a) := by simpa using hp
    subst ep
    exact ⟨hu, nu, Nat.ne_of_gt I2.lt, I2.nofs (Nat.le_refl _), fun v z => by cases z⟩
  show wpAny _ _ (callWith cp (.ref h'.objs.size) [] (backTo cp (starEach [arg] (envF F f s.heap.objs.size))) []) _ _ _
  have hA : PA (ncx CX P w K mg base N F f A outer s H E) [arg] (tCons te tNil) := pa_cons hE pa_nil (by rw [hst]; rfl)
  have hpl : (backTo cp (starEach [arg] (envF F f s.heap.objs.size))).any (·.1) = false := by rw [hst]; rfl
  refine kxs_callWith (i := "ValueError.__init__") (x := a) hpl ?_
  have run := hA.run cp _ _ _ H (fun vs H1 => match vs with
    | [_] => H1 a = some (exo a C none) ∧ t { nx := fun _ H' => Q .non H', rt := Q } (startF N (V.ref a :: ws) [some (.ref C)]) H1
    | _ => False) I4 hq
  rw [show (ncx CX P w K mg base N F f A outer s H E).env = envF F f s.heap.objs.size from rfl, hst] at run
  rw [hst]
  refine Calls.evalArgs_plain (thn run fun us3 s3 ⟨vs3, H1, I5, rv, q5⟩ => ?_)
  obtain ⟨x3, rfl⟩ : ∃ x, vs3 = [x] := by
    match vs3, q5 with
    | [x], _ => exact ⟨x, rfl⟩
  have hl3 : us3.length = 1 := rv.length.symm
  have pin5 := (I5.pin (h'.objs.size, kxs_mw "ValueError.__init__" a) (List.mem_append_right _ (by simp))).1
  refine ⟨pin5, ?_⟩
  refine ocall_ok T I5 q5.1 pin5 (by show us3.length ≤ sizeLine; rw [hl3, sizeLine_eq]; decide) fun s4 J => ?_
  have J0 := J.pins_of (pins' := []) fun p hp => absurd hp (by simp)
  refine wpAt_of_wpAny (wpAny_mono (hR.run [] s4 _ H1 _ J0 q5.2) (fun fl s' hs => ?_) fun e s' hs => hs)
  have fin : ∀ {σ' : L2.St} {H' : Hp} {v : V} {u : Value}, Inv (ncx CX P w K mg base N F f A outer s H E) [] σ' H' s' → L2.RelV v u → Q v H' → CE outer P w H s Q u s' :=
    fun {σ' H' v u} J rv q => ⟨v, H', J.os, J.bare, J.base, J.hok, rv, q⟩
  cases fl with
  | ret u =>
    obtain ⟨v, σ', H', J, rv, q⟩ := hs
    exact fin J rv q
  | next =>
    obtain ⟨σ', H', J, q⟩ := hs
    exact fin (v := V.non) (u := Value.none) J rfl q
  | brk =>
    obtain ⟨_, _, _, q⟩ := hs
    exact False.elim q
  | cont =>
    obtain ⟨_, _, _, q⟩ := hs
    exact False.elim q
end
end EV
/-! an error's __init__: super().__init__(f'..'), then its fields -/
namespace EV
open PySem PySem.Spec PyProof.Rows L2 NdefX
inductive FP where
  | lit (s : Str) | par (i : Nat)
def txtOk : Int → Bool
  | .ofNat n => Nat.ble n 340282366920938463463374607431768211455
  | .negSucc n => Nat.ble n 340282366920938463463374607431768211455
theorem txt_log {i : Int} (h : txtOk i = true) : i.natAbs.log2 < 1920 := by
  have hb : i.natAbs < 2 ^ 129 := by
    cases i with
    | ofNat n =>
      have : n ≤ 340282366920938463463374607431768211455 := Nat.le_of_ble_eq_true h
      show n < _
      omega
    | negSucc n =>
      have : n ≤ 340282366920938463463374607431768211455 := Nat.le_of_ble_eq_true h
      show n + 1 < _
      omega
  by_cases h0 : i.natAbs = 0
  · rw [h0]; decide
  · have := (Nat.log2_lt h0).mpr hb
    omega
/-- what an error's __init__ makes: the last field stored stands first -/
def semX (c : Str) (n : Nat) (flds : List (Str × Nat)) (ds : List D) : R D := match intsOf ds with
  | some ns => if decide (ds.length + 1 = n) && ns.all txtOk then .ok (.obj .z c (flds.reverse.map (·.1)) (flds.reverse.map fun q => .int (ns.getD (q.2 - 1) 0))) else .st
  | none => .st
def chFP (N : List Str) (n : Nat) (sc : Scope) : FP → Expr → Bool
  | .lit s, .Constant (.str t) _ _ => decide (s = t) && decide (s.length ≤ 1921)
  | .par i, .FormattedValue (.Name x _) cv none _ => decide (cv = -1) && decide (1 ≤ i) && decide (i < n) && slotB N sc i x
  | _, _ => false
def chFPs (N : List Str) (n : Nat) (sc : Scope) : List FP → List Expr → Bool
  | [], [] => true
  | f :: fs, e :: es => chFP N n sc f e && chFPs N n sc fs es
  | _, _ => false
/-- self.f = name -/
def unFld : Stmt → Option (Str × Str × Str)
  | .Assign [.Attribute (.Name s _) f _] (.Name x _) _ => some (s, f, x)
  | _ => none
theorem unFld_inv {st : Stmt} {r : Str × Str × Str} (h : unFld st = some r) : ∃ p1 p2 p3 p4, st = .Assign [.Attribute (.Name r.1 p1) r.2.1 p2] (.Name r.2.2 p3) p4 := by
  unfold unFld at h
  split at h
  · cases h; exact ⟨_, _, _, _, rfl⟩
  · cases h
def chFlds (N : List Str) (n : Nat) (sc : Scope) : List (Str × Nat) → List Stmt → Bool
  | [], [] => true
  | q :: fs, st :: sts => (match unFld st with
    | some r => decide (r.2.1 = q.1) && decide (1 ≤ q.2) && decide (q.2 < n) && slotB N sc 0 r.1 && slotB N sc q.2 r.2.2
    | none => false) && chFlds N n sc fs sts
  | _, _ => false
def tFP : FP → TE
  | .lit s => tC (.str s)
  | .par i => tFmt (tVar i)
def tOs (K : PySem.W.Frag) : List (Str × Nat) → TS
  | [] => tNext
  | q :: r => tSeq (tOst K q.1 (tVar 0) (tVar q.2)) (tOs K r)
section
variable {X : Cx} {N : List Str} {sc : Scope} {n : Nat}
theorem slot_of {i : Nat} {x : Str} {p : Pos} (eN : X.N = N) (eS : X.env.scope = sc) (h : slotB N sc i x = true) : PE X (.Name x p) (tVar i) := by
  simp only [slotB, visB, nmB, Bool.and_eq_true, Bool.or_eq_true, decide_eq_true_eq, Bool.not_eq_true'] at h
  obtain ⟨⟨h1, h2⟩, h3, h4⟩ := h
  refine pe_var (by rw [eN]; exact h1) ?_ h3 h4
  show X.env.scope.names.lookup x = _ ∨ X.env.scope.names.lookup x = _ ∨ X.env.scope.names.lookup x = _
  rw [eS]
  rcases h2 with (h2 | h2) | h2
  · exact .inl h2
  · exact .inr (.inl h2)
  · exact .inr (.inr h2)
theorem pj_of (eN : X.N = N) (eS : X.env.scope = sc) : ∀ {fs : List FP} {es : List Expr}, chFPs N n sc fs es = true → PJ X es (fs.map tFP)
  | [], [], _ => .nil
  | f :: fs, e :: es, h => by
    simp only [chFPs, Bool.and_eq_true] at h
    refine .cons ?_ (pj_of eN eS h.2)
    have h1 := h.1
    cases f with
    | lit s =>
      cases e <;> try (simp [chFP] at h1; done)
      rename_i v k p
      cases v <;> try (simp [chFP] at h1; done)
      simp only [chFP, Bool.and_eq_true, decide_eq_true_eq] at h1
      obtain ⟨rfl, _⟩ := h1
      exact pe_str
    | par i =>
      cases e <;> try (simp [chFP] at h1; done)
      rename_i v cv sp p
      cases v <;> try (simp [chFP] at h1; done)
      cases sp <;> try (simp [chFP] at h1; done)
      simp only [chFP, Bool.and_eq_true, decide_eq_true_eq] at h1
      obtain ⟨⟨⟨rfl, _⟩, _⟩, h4⟩ := h1
      exact pe_fmt (slot_of eN eS h4)
  | [], _ :: _, h => by simp [chFPs] at h
  | _ :: _, [], h => by simp [chFPs] at h
theorem os_of (eN : X.N = N) (eS : X.env.scope = sc) : ∀ {fs : List (Str × Nat)} {sts : List Stmt}, chFlds N n sc fs sts = true → PSs X sts (tOs X.K fs)
  | [], [], _ => pss_nil
  | q :: fs, st :: sts, h => by
    simp only [chFlds, Bool.and_eq_true] at h
    obtain ⟨h1, h2⟩ := h
    split at h1
    rotate_left
    · cases h1
    rename_i r hr
    obtain ⟨p1, p2, p3, p4, rfl⟩ := unFld_inv hr
    simp only [Bool.and_eq_true, decide_eq_true_eq] at h1
    obtain ⟨⟨⟨⟨e1, _⟩, _⟩, h3⟩, h4⟩ := h1
    rw [e1]
    exact pss_cons (ps_ost (slot_of eN eS h3) (slot_of eN eS h4)) (os_of eN eS h2)
  | [], _ :: _, h => by simp [chFlds] at h
  | _ :: _, [], h => by simp [chFlds] at h
end
section
variable {K : PySem.W.Frag} {C a : Addr} {σ : L2.St} {Hb : Hp} {val : Nat → V}
/-- the fields behind the first one -/
theorem os_run (T : OexC K C) (h0 : σ[0]? = some (some (.ref a))) (ha : Hb a = none) {Dn : Ends} : ∀ (r : List (Str × Nat)) (H : Hp) (d : Addr) (fs : List (Str × V)), H a = some (exo a C (some d)) → H d = some (exd d fs) → Hb d = none → d ≠ a → Same Hb H →
    (∀ q ∈ r, σ[q.2]? = some (some (val q.2)) ∧ PySem.W.findIn K (.ref C) q.1 = some none) → fs.length + r.length ≤ 900 →
    (∀ H', Same Hb H' → H' a = some (exo a C (some d)) → H' d = some (exd d (r.reverse.map (fun q => (q.1, val q.2)) ++ fs)) → Dn.nx σ H') → tOs K r Dn σ H
  | [], H, d, fs, e1, e2, nd, nda, sm, hq, hl, k => k H sm e1 (by simpa using e2)
  | q :: r, H, d, fs, e1, e2, nd, nda, sm, hq, hl, k => by
    obtain ⟨hv, hf⟩ := hq q (by simp)
    refine ⟨_, hv, _, h0, a, C, rfl, T, hf, .inr ⟨d, fs, e1, e2, by simp at hl; omega, ?_⟩⟩
    refine os_run T h0 ha r _ d ((q.1, val q.2) :: fs) (by rw [upd_ne (Ne.symm nda)]; exact e1) upd_same nd nda (fun b o e => ?_) (fun q' hq' => hq q' (by simp [hq'])) (by simp at hl ⊢; omega) fun H' s1 s2 s3 => k H' s1 s2 (by simpa using s3)
    rw [upd_ne (fun z => by rw [z, nd] at e; cases e)]
    exact sm b o e
/-- .. all of them, from the first one on -/
theorem os_all (T : OexC K C) (h0 : σ[0]? = some (some (.ref a))) (ha : Hb a = none) {Dn : Ends} {r : List (Str × Nat)} {H : Hp} (ne : r ≠ []) (e1 : H a = some (exo a C none)) (sm : Same Hb H)
    (hq : ∀ q ∈ r, σ[q.2]? = some (some (val q.2)) ∧ PySem.W.findIn K (.ref C) q.1 = some none) (hl : r.length ≤ 900)
    (k : ∀ H' d, Same Hb H' → H' a = some (exo a C (some d)) → H' d = some (exd d (r.reverse.map fun q => (q.1, val q.2))) → Hb d = none → Dn.nx σ H') : tOs K r Dn σ H := by
  cases r with
  | nil => exact absurd rfl ne
  | cons q r =>
    obtain ⟨hv, hf⟩ := hq q (by simp)
    refine ⟨_, hv, _, h0, a, C, rfl, T, hf, .inl ⟨e1, fun dx n nda => ?_⟩⟩
    have nb : Hb dx = none := Same.none sm n
    refine os_run (val := val) T h0 ha r _ dx [(q.1, val q.2)] upd_same (by rw [upd_ne nda, upd_same]) nb nda (fun b o e => ?_) (fun q' hq' => hq q' (by simp [hq'])) (by simp at hl ⊢; omega) fun H' s1 s2 s3 => k H' dx s1 s2 (by simpa using s3) nb
    rw [upd_ne (fun z => by rw [z, ha] at e; cases e), upd_ne (fun z => by rw [z, nb] at e; cases e)]
    exact sm b o e
/-- the text -/
theorem js_run {n : Nat} {N : List Str} {sc : Scope} {H : Hp} {ns : List Int} (ho : ns.all txtOk = true) (hn : ns.length + 1 = n) (hσ : ∀ i, 1 ≤ i → i < n → σ[i]? = some (some (.int (ns.getD (i - 1) 0)))) {Q : Str → Hp → Prop} : ∀ {fs : List FP} {es : List Expr} (acc : Str), chFPs N n sc fs es = true → acc.length + fs.length * 1921 ≤ sizeLine →
    (∀ out, Q out H) → tJs (fs.map tFP) acc σ H Q
  | [], [], acc, _, _, k => k acc
  | f :: fs, e :: es, acc, h, hl, k => by
    simp only [chFPs, Bool.and_eq_true] at h
    have h1 := h.1
    simp only [List.length_cons] at hl
    have go : ∀ y : Str, y.length ≤ 1921 → (acc ++ y).length ≤ sizeLine ∧ tJs (fs.map tFP) (acc ++ y) σ H Q := fun y hy => by
      have la : (acc ++ y).length = acc.length + y.length := by
        show (acc.cps ++ y.cps).size = _
        simp [Str.length]
      exact ⟨by omega, js_run ho hn hσ (acc ++ y) h.2 (by rw [la]; omega) k⟩
    cases f with
    | lit s =>
      cases e <;> try (simp [chFP] at h1; done)
      rename_i v k2 p
      cases v <;> try (simp [chFP] at h1; done)
      simp only [chFP, Bool.and_eq_true, decide_eq_true_eq] at h1
      exact ⟨s, rfl, go s h1.2⟩
    | par i =>
      cases e <;> try (simp [chFP] at h1; done)
      rename_i v cv sp p
      cases v <;> try (simp [chFP] at h1; done)
      cases sp <;> try (simp [chFP] at h1; done)
      simp only [chFP, Bool.and_eq_true, decide_eq_true_eq] at h1
      obtain ⟨⟨⟨_, h2⟩, h3⟩, _⟩ := h1
      have hi : txtOk (ns.getD (i - 1) 0) = true := by
        have hlt : i - 1 < ns.length := by omega
        rw [List.getD_eq_getElem?_getD, List.getElem?_eq_getElem hlt]
        exact List.all_eq_true.mp ho _ (List.getElem_mem hlt)
      have hz := txt_log hi
      exact ⟨_, hσ i h2 h3, .inr ⟨_, rfl, hz, _, rfl, go _ (PyProof.Rows.int_text_len_1921 hz)⟩⟩
  | [], _ :: _, acc, h, _, _ => by simp [chFPs] at h
  | _ :: _, [], acc, h, _, _ => by simp [chFPs] at h
end
theorem sup_tree {o : Expr} {name : Str} {apos pos : Pos} {args : List Expr} {env : PySem.Env}
    (hfew : methodCallForm (args.length + ([] : List Keyword).length) (backTo pos (starEach args env)) (backToKw pos (keywordEach [] env)) = true) (hline : (apos.endLine == pos.line) = true) :
    eval (.Call (.Attribute o name apos) args [] pos) env = (do
      let ov ← attributeBase o name env (eval o env)
      standAt apos.atName
      let (f, first) ← holding [ov] (getMethod ov name (do return (← importBound o env).getD true))
      callWith pos f first (backTo pos (starEach args env)) (backToKw pos (keywordEach [] env))) := by
  have hpos : methodCallPos true o env apos pos = pure pos := by unfold methodCallPos; simp [hline]
  rw [arm_eval_Call]
  unfold methodCall
  rw [hfew, hpos]
  unfold calleeOf
  simp only [if_true, pure_bind]
/-- super().__init__(f'..') -/
def unSup : Stmt → Option (Pos × List Expr × Pos)
  | .Expr (.Call (.Attribute (.Call (.Name s _) [] [] _) m ap) [.JoinedStr es _] [] cp) _ => if s = "super" ∧ m = "__init__" then some (ap, es, cp) else none
  | _ => none
theorem unSup_inv {st : Stmt} {r : Pos × List Expr × Pos} (h : unSup st = some r) : ∃ p0 p1 jp ep, st = .Expr (.Call (.Attribute (.Call (.Name "super" p0) [] [] p1) "__init__" r.1) [.JoinedStr r.2.1 jp] [] r.2.2) ep := by
  unfold unSup at h
  split at h
  · split at h
    · rename_i hc
      cases h
      obtain ⟨rfl, rfl⟩ := hc
      exact ⟨_, _, _, _, rfl⟩
    · cases h
  · cases h
def excB (N : List Str) (n : Nat) (sc : Scope) (fps : List FP) (flds : List (Str × Nat)) : List Stmt → Bool
  | st :: rest => (match unSup st with
    | some r => (r.1.endLine == r.2.2.line) && chFPs N n sc fps r.2.1 && decide (2 ≤ r.2.1.length) && decide (fps.length ≤ 20) && chFlds N n sc flds rest && decide (flds ≠ []) && decide (flds.length ≤ 900)
    | none => false)
  | [] => false
theorem flds_ix {N : List Str} {n : Nat} {sc : Scope} : ∀ {fs : List (Str × Nat)} {sts : List Stmt}, chFlds N n sc fs sts = true → ∀ q ∈ fs, 1 ≤ q.2 ∧ q.2 < n
  | q0 :: fs, st :: sts, h, q, hq => by
    simp only [chFlds, Bool.and_eq_true] at h
    rcases List.mem_cons.mp hq with rfl | hq
    · have h1 := h.1
      split at h1
      rotate_left
      · cases h1
      simp only [Bool.and_eq_true, decide_eq_true_eq] at h1
      exact ⟨h1.1.1.1.2, h1.1.1.2⟩
    · exact flds_ix h.2 q hq
  | [], sts, h, q, hq => nomatch hq
  | _ :: _, [], h, q, hq => by simp [chFlds] at h
theorem flats_ints (g : Str × Nat → Int) : ∀ (l : List (Str × Nat)), flats (l.map fun q => D.int (g q)) = some (l.map fun q => V.int (g q))
  | [] => rfl
  | q :: l => by simp [flats, flat, flats_ints g l]
theorem ints_flats : ∀ {ds : List D} {ns : List Int} {ws : List V}, intsOf ds = some ns → flats ds = some ws → ws = ns.map V.int
  | [], ns, ws, h1, h2 => by cases h1; cases h2; rfl
  | d :: ds, ns, ws, h1, h2 => by
    cases d <;> simp only [intsOf] at h1 <;> try (cases h1)
    obtain ⟨ms, e1, rfl⟩ := Option.map_eq_some_iff.mp h1
    simp only [flats, flat] at h2
    cases h3 : flats ds with
    | none => rw [h3] at h2; cases h2
    | some us =>
      rw [h3] at h2
      cases h2
      rw [ints_flats e1 h3]; rfl
theorem def_exc {P : Program} {w : World} {K : PySem.W.Frag} {mg : Str → Option Value} {base : Heap} {c : Str} {f : Addr} {fd : FuncData} {F : NF} {N ps : List Str} {fps : List FP} {flds : List (Str × Nat)} {k : Nat} (Z : SupF P K mg f (He.ga K c) fd F N ps) (T : OexC K (He.ga K c)) (S : NScope N ps ["__class__"] F.scope)
    (hb : excB N ps.length F.scope fps flds F.body = true) (hf : ∀ q ∈ flds, PySem.W.findIn K (.ref (He.ga K c)) q.1 = some none) (q : XQ) : FnOk P w K mg base (L2N.CX P w) (k + 1) f fd ps (spX ⟨K, q⟩ c ps.length (semX c ps.length flds)) := by
  cases eb : F.body with
  | nil => rw [eb] at hb; cases hb
  | cons st rest =>
    rw [eb] at hb
    simp only [excB] at hb
    split at hb
    rotate_left
    · cases hb
    rename_i r hr
    obtain ⟨ap, es, cp⟩ := r
    obtain ⟨p0, p1, jp, ep, rfl⟩ := unSup_inv hr
    simp only [Bool.and_eq_true, decide_eq_true_eq] at hb
    obtain ⟨⟨⟨⟨⟨⟨h1, h2⟩, h3⟩, h4⟩, h5⟩, h6⟩, h7⟩ := hb
    refine supinit_ok Z T S eb (pl := (do return (← (pure (some false) : Sem (Option Bool))).getD true)) (fun env => ?_) (fun env => rfl) (fun vs H Q E h => h.1) fun A outer s H vs Q E hr h => ?_
    · exact sup_tree (o := .Call (.Name "super" p0) [] [] p1) (name := "__init__") (args := [.JoinedStr es jp]) (env := env) (form_of rfl (show 1 + 0 < 30 by decide)) h1
    · obtain ⟨hl, p, ws, Hb, ds, ks, es', us, rfl, hp, rfl, e1, e2, e3, e4, kk⟩ := h
      unfold semX at e2
      split at e2
      rotate_left
      · cases e2
      rename_i ns hns
      split at e2
      rotate_left
      · cases e2
      rename_i hg
      simp only [Bool.and_eq_true, decide_eq_true_eq] at hg
      injection e2 with e2
      injection e2 with _ _ ek ee
      have ew := ints_flats hns e1
      have lw : ws.length = ns.length := by rw [ew]; simp
      have hn : ns.length + 1 = ps.length := by simp at hl; omega
      rw [← ee, flats_ints (fun q => ns.getD (q.2 - 1) 0)] at e3
      cases e3
      have hσ : ∀ i, 1 ≤ i → i < ps.length → (startF N (V.ref p :: ws) [some (.ref (He.ga K c))])[i]? = some (some (.int (ns.getD (i - 1) 0))) := fun i h1 h2 => by
        obtain ⟨j, rfl⟩ : ∃ j, i = j + 1 := ⟨i - 1, by omega⟩
        unfold startF
        rw [List.getElem?_append_left (by simp; omega), List.getElem?_map, List.getElem?_cons_succ, ew, List.getElem?_map, List.getElem?_eq_getElem (by omega)]
        simp [List.getD_eq_getElem?_getD, List.getElem?_eq_getElem (show j < ns.length by omega)]
      have hes : ∃ v1 v2 r, es = v1 :: v2 :: r := by
        rcases es with _ | ⟨v1, _ | ⟨v2, r⟩⟩
        · simp at h3
        · simp at h3
        · exact ⟨v1, v2, r, rfl⟩
      obtain ⟨v1, v2, r, rfl⟩ := hes
      refine ⟨_, tOs K flds, p, ws, rfl, upd_same, pe_joined (pj_of rfl rfl h2), os_of rfl rfl h5, ?_⟩
      refine js_run hg.2 hn hσ Str.empty h2 ?_ fun out => ⟨upd_same, ?_⟩
      · have : (Str.empty : Str).length = 0 := rfl
        have hs := sizeLine_eq
        rw [this, hs]; omega
      · refine os_all (val := fun i => .int (ns.getD (i - 1) 0)) T (by unfold startF; simp) hp h6 upd_same (same_upd hp) (fun q hq => ⟨?_, hf q hq⟩) h7 fun H' d s1 s2 s3 s4 => kk H' d s1 s2 ?_ s4
        · obtain ⟨a1, a2⟩ := flds_ix h5 q hq
          exact hσ q.2 a1 a2
        · rw [s3, ← ek, List.zip_map']
end EV
/-! the table of a text's defs -/
namespace EV
open PySem PySem.Spec PyProof.Rows L2 NdefX
inductive Kd where
  | fn (hot : Bool) | void | mt (κ : MK) (c : Str) | ini (c : Str) | exc (c : Str) (fps : List FP) (flds : List (Str × Nat))
structure DR where
  name : Str
  kd : Kd
  ps : List Str
  N : List Str
  body : Ss
structure Cs' where
  sub : Str → Str → Option Bool
  xsub : Str → Str → Option Bool
  fc : List Fk
def Cs'.tab (cl : Cs') (Φ : Nat → FD) : Tab := ⟨Φ, cl.sub, cl.xsub, none⟩
noncomputable def DR.fd (cl : Cs') (Φ : Nat → FD) (d : DR) : FD := match d.kd with
  | .fn _ => ⟨d.ps.length, fun ds => runF (cl.tab Φ) d.N.length d.body ds⟩
  | .void => ⟨d.ps.length, fun _ => .st⟩
  | .mt _ _ => ⟨d.ps.length, fun ds => runF (cl.tab Φ) d.N.length d.body ds⟩
  | .ini c => ⟨d.ps.length, fun ds => runI (cl.tab Φ) c d.N.length d.body ds⟩
  | .exc c _ flds => ⟨d.ps.length, semX c d.ps.length flds⟩
/-- what the defs do: the newest first; each knows those behind it -/
noncomputable def tabR (cl : Cs') : List DR → Nat → FD
  | [], _ => ⟨0, fun _ => .st⟩
  | d :: r, i => if i = r.length then d.fd cl (tabR cl r) else tabR cl r i
def Kd.isFn : Kd → Bool
  | .fn _ => true | .void => true | _ => false
def nmF : List DR → Nat → Option Str
  | [], _ => none
  | d :: r, i => if i = r.length then (if d.kd.isFn then some d.name else none) else nmF r i
def nmM : List DR → Nat → Option (MK × Str × Str)
  | [], _ => none
  | d :: r, i => if i = r.length then (match d.kd with | .mt κ c => some (κ, c, d.name) | _ => none) else nmM r i
def nmI : List DR → Nat → Option Str
  | [], _ => none
  | d :: r, i => if i = r.length then (match d.kd with | .ini c => some c | _ => none) else nmI r i
def nmX : List DR → Nat → Option Str
  | [], _ => none
  | d :: r, i => if i = r.length then (match d.kd with | .exc c _ _ => some c | _ => none) else nmX r i
def nmH : List DR → Nat → Bool
  | [], _ => false
  | d :: r, i => if i = r.length then (match d.kd with | .fn h => h | _ => false) else nmH r i
def nmR (fc : List Fk) (l : List DR) : Nm := ⟨nmF l, nmM l, nmI l, nmX l, nmH l, fc⟩
def okD (nm : Nm) (d : DR) (st : Stmt) : Bool := match d.kd with
  | .fn h => scopeB d.N d.ps (defScope st) && chSs d.N nm .c d.body (defScope st) (defBody st) && (!h || chSs d.N nm .h d.body (defScope st) (defBody st))
  | .void => true
  | .mt _ _ => scopeB d.N d.ps (defScope st) && chSs d.N nm .c d.body (defScope st) (defBody st)
  | .ini _ => scopeB d.N d.ps (defScope st) && chSs d.N nm .c d.body (defScope st) (defBody st) && okSs d.body
  | .exc _ fps flds => excB d.N d.ps.length (defScope st) fps flds (defBody st)
/-- each body is the skeleton of its def -/
def okR (fc : List Fk) : List DR → List Stmt → Bool
  | [], [] => true
  | d :: r, st :: sts => okD (nmR fc r) d st && okR fc r sts
  | _, _ => false
/-- what the written part says of a def -/
def DR.said (P : Program) (K : PySem.W.Frag) (mg : Str → Option Value) (d : DR) (st : Stmt) : Prop := match d.kd with
  | .fn _ => ∃ f fd, Fun K d.name d.name st f fd ∧ mg d.name = some (.ref f) ∧ Binds K fd d.ps []
  | .void => ∃ f fd, Fun K d.name d.name st f fd ∧ mg d.name = some (.ref f) ∧ Binds K fd d.ps []
  | .mt κ c => ∃ x qual fd, Fun K x qual st (adr K κ c d.name) fd ∧ Binds K fd d.ps []
  | .ini c => ∃ x qual fd, Fun K x qual st (adr K .p c "__init__") fd ∧ Binds K fd d.ps []
  | .exc c _ flds => ∃ fd F, SupF P K mg (adr K .p c "__init__") (He.ga K c) fd F d.N d.ps ∧ OexC K (He.ga K c) ∧ NScope d.N d.ps ["__class__"] F.scope ∧ F.scope = defScope st ∧ F.body = defBody st ∧ Binds K fd d.ps [] ∧ ∀ q ∈ flds, PySem.W.findIn K (.ref (He.ga K c)) q.1 = some none
section
variable {P : Program} {w : World} {K : PySem.W.Frag} {mg : Str → Option Value} {base : Heap}
theorem FK.any {Φ Φ' : Tab} (h : FK K Φ) (h1 : Φ'.sub = Φ.sub) (h2 : Φ'.xsub = Φ.xsub) : FK K Φ' := ⟨by rw [h1]; exact h.isb, by rw [h1]; exact h.isc, by rw [h2]; exact h.exc⟩
theorem def_void {f : Addr} {fd : FuncData} {ps : List Str} {k n : Nat} (h : n = ps.length) (q : XQ) : FnOk P w K mg base (L2N.CX P w) k f fd ps (spF ⟨K, q⟩ K n fun _ => .st) :=
  ⟨fun vs H Q E h2 => h2.1.trans h, fun A outer s H args us vs Q E _ _ _ _ h2 => by obtain ⟨_, _, _, _, _, _, k⟩ := h2; exact k.elim⟩
theorem all_ok {cl : Cs'} (fk : ∀ Φ, FK K (cl.tab Φ)) (bi : ∀ x : Str, x ∈ biNames → mg x = none) (fcs : ∀ f ∈ cl.fc, f.holds K mg) : ∀ (l : List DR) (sts : List Stmt), okR cl.fc l sts = true →
    (∀ (i : Nat) (d : DR) (st : Stmt), l[i]? = some d → sts[i]? = some st → d.said P K mg st) → Gs (nmR cl.fc l) (tabR cl l) (2 * l.length) P w K mg base
  | [], sts, _, _ => ⟨bi, (fun _ _ h => nomatch h), (fun _ _ _ _ h => nomatch h), (fun _ _ h => nomatch h), (fun _ _ h => nomatch h), fcs⟩
  | d :: r, [], h, _ => by simp [okR] at h
  | d :: r, st :: sts, h, said => by
    simp only [okR, Bool.and_eq_true] at h
    have ih := all_ok fk bi fcs r sts h.2 fun i d st h1 h2 => said (i + 1) d st (by simpa using h1) (by simpa using h2)
    have sd := said 0 d st rfl rfl
    have hd := h.1
    have lv2 : 2 * (d :: r).length = 2 * r.length + 2 := by simp; omega
    rw [lv2]
    have fkr := fk (tabR cl r)
    have ihr : Gs (nmR cl.fc r) (cl.tab (tabR cl r)).fd (2 * r.length) P w K mg base := ih
    refine ⟨bi, fun f x hf => ?_, fun f κ c n hf => ?_, fun f c hf => ?_, fun f c hf => ?_, fcs⟩
    · by_cases e : f = r.length
      · have hf : nmF (d :: r) f = some x := hf
        simp only [nmF, e, if_true] at hf
        have hh : (nmR cl.fc (d :: r)).hot f = (match d.kd with | .fn h => h | _ => false) := by show nmH (d :: r) f = _; simp only [nmH, e, if_true]
        have ht : tabR cl (d :: r) f = d.fd cl (tabR cl r) := by simp only [tabR, e, if_true]
        rw [hh, ht]
        cases hk : d.kd with
        | fn hot =>
          rw [hk] at hf
          simp only [Kd.isFn, if_true] at hf
          cases hf
          simp only [DR.said, hk] at sd
          simp only [okD, hk, Bool.and_eq_true] at hd
          obtain ⟨a, fd, F, m, b⟩ := sd
          refine ⟨a, fd, d.ps, 2 * r.length + 1, by omega, fun q => ?_, fun hot q => ?_, m, F.kp, b⟩
          · simp only [DR.fd, hk]
            exact def_fn F hd.1.1 hd.1.2 ihr fkr rfl q
          · simp only [DR.fd, hk]
            have h2 := hd.2
            simp only at hot
            rw [hot, Bool.not_true, Bool.false_or] at h2
            exact def_hot F hd.1.1 h2 ihr fkr rfl q
        | void =>
          rw [hk] at hf
          simp only [Kd.isFn, if_true] at hf
          cases hf
          simp only [DR.said, hk] at sd
          obtain ⟨a, fd, F, m, b⟩ := sd
          refine ⟨a, fd, d.ps, 0, by omega, fun q => ?_, (fun h => nomatch h), m, F.kp, b⟩
          simp only [DR.fd, hk]
          exact def_void rfl q
        | mt κ c => rw [hk] at hf; simp [Kd.isFn] at hf
        | ini c => rw [hk] at hf; simp [Kd.isFn] at hf
        | exc c a b => rw [hk] at hf; simp [Kd.isFn] at hf
      · have h1 : nmF r f = some x := by have hf : nmF (d :: r) f = some x := hf; simpa only [nmF, e, if_false] using hf
        obtain ⟨a, fd, ps, k, hk, F, FH, m, kp, b⟩ := ih.fns f x h1
        have ht : tabR cl (d :: r) f = tabR cl r f := by simp only [tabR, e, if_false]
        have hh : (nmR cl.fc (d :: r)).hot f = (nmR cl.fc r).hot f := by show nmH (d :: r) f = nmH r f; simp only [nmH, e, if_false]
        rw [ht, hh]
        exact ⟨a, fd, ps, k, by omega, F, FH, m, kp, b⟩
    · by_cases e : f = r.length
      · have hf : nmM (d :: r) f = some (κ, c, n) := hf
        simp only [nmM, e, if_true] at hf
        have ht : tabR cl (d :: r) f = d.fd cl (tabR cl r) := by simp only [tabR, e, if_true]
        rw [ht]
        cases hk : d.kd <;> rw [hk] at hf <;> try (cases hf; done)
        cases hf
        simp only [DR.said, hk] at sd
        simp only [okD, hk, Bool.and_eq_true] at hd
        obtain ⟨x, qual, fd, F, b⟩ := sd
        refine ⟨fd, d.ps, 2 * r.length + 1, by omega, fun q => ?_, b⟩
        simp only [DR.fd, hk]
        exact def_fn F hd.1 hd.2 ihr fkr rfl q
      · have h1 : nmM r f = some (κ, c, n) := by have hf : nmM (d :: r) f = some (κ, c, n) := hf; simpa only [nmM, e, if_false] using hf
        obtain ⟨fd, ps, k, hk, F, b⟩ := ih.mts f κ c n h1
        have ht : tabR cl (d :: r) f = tabR cl r f := by simp only [tabR, e, if_false]
        rw [ht]
        exact ⟨fd, ps, k, by omega, F, b⟩
    · by_cases e : f = r.length
      · have hf : nmI (d :: r) f = some c := hf
        simp only [nmI, e, if_true] at hf
        have ht : tabR cl (d :: r) f = d.fd cl (tabR cl r) := by simp only [tabR, e, if_true]
        rw [ht]
        cases hk : d.kd <;> rw [hk] at hf <;> try (cases hf; done)
        cases hf
        simp only [DR.said, hk] at sd
        simp only [okD, hk, Bool.and_eq_true] at hd
        obtain ⟨x, qual, fd, F, b⟩ := sd
        refine ⟨fd, d.ps, 2 * r.length + 1, by omega, fun q => ?_, b⟩
        simp only [DR.fd, hk]
        exact def_ini F hd.1.1 hd.1.2 hd.2 ihr fkr rfl q
      · have h1 : nmI r f = some c := by have hf : nmI (d :: r) f = some c := hf; simpa only [nmI, e, if_false] using hf
        obtain ⟨fd, ps, k, hk, F, b⟩ := ih.inis f c h1
        have ht : tabR cl (d :: r) f = tabR cl r f := by simp only [tabR, e, if_false]
        rw [ht]
        exact ⟨fd, ps, k, by omega, F, b⟩
    · by_cases e : f = r.length
      · have hf : nmX (d :: r) f = some c := hf
        simp only [nmX, e, if_true] at hf
        have ht : tabR cl (d :: r) f = d.fd cl (tabR cl r) := by simp only [tabR, e, if_true]
        rw [ht]
        cases hk : d.kd <;> rw [hk] at hf <;> try (cases hf; done)
        cases hf
        simp only [DR.said, hk] at sd
        simp only [okD, hk] at hd
        obtain ⟨fd, F, Z, T, S, e1, e2, b, hfl⟩ := sd
        refine ⟨fd, d.ps, 2 * r.length + 1, by omega, fun q => ?_, b⟩
        simp only [DR.fd, hk]
        rw [← e1, ← e2] at hd
        exact def_exc Z T S hd hfl q
      · have h1 : nmX r f = some c := by have hf : nmX (d :: r) f = some c := hf; simpa only [nmX, e, if_false] using hf
        obtain ⟨fd, ps, k, hk, F, b⟩ := ih.xis f c h1
        have ht : tabR cl (d :: r) f = tabR cl r f := by simp only [tabR, e, if_false]
        rw [ht]
        exact ⟨fd, ps, k, by omega, F, b⟩
/-- a law's promise: at most 63 ints are handed in, True comes out -/
def spLaw (K : PySem.W.Frag) : Sp := fun vs H Q _ => ∃ (a : Addr) (ns : List Int), vs = [.ref a] ∧ SqL K H a (ns.map V.int) ∧ ns.length ≤ 63 ∧ ∀ H', Q (.bl true) H'
theorem law_imp {sem : List D → R D} {q : XQ} (h1 : ∀ ns : List Int, ns.length ≤ 63 → sem [.scr ns] = .ok (.bl true)) (h2 : ∀ ns : List Int, ns.length ≤ 63 → sem [.lst .z (ns.map .int)] = .ok (.bl true)) :
    ∀ vs H Q E, spLaw K vs H Q E → spF ⟨K, q⟩ K 1 sem vs H Q E := by
  rintro vs H Q E ⟨a, ns, rfl, hs, hl, k⟩
  refine ⟨rfl, ?_⟩
  have own1 : ∀ b o, (fun c => if c = a then H a else none : Hp) b = some o → H b = some o := fun b o e => by
    dsimp only at e
    split at e
    · rename_i h; rw [h]; exact e
    · cases e
  have at_a : (fun c => if c = a then H a else none : Hp) a = H a := by simp
  rcases hs with (hs | ⟨o, hs⟩) | hs
  · refine ⟨fun c => if c = a then H a else none, [.lst .z (ns.map .int)], own1, ⟨.ref a, [], [], [], rfl, rfl, ⟨rfl, a, ns.map V.int, rfl, at_a.trans hs, owns_ints ns⟩, rfl, rfl⟩, ?_, ?_⟩
    · have : ∀ ns : List Int, isZs (ns.map .int) = true := fun ns => by
        induction ns with
        | nil => rfl
        | cons n ns ih => simpa [isZs, isZ] using ih
      simp [isZs, isZ, this ns]
    · rw [h2 ns hl]
      exact fun v S' H' B f o r => by rw [o.1]; exact k H'
  · refine ⟨fun c => if c = a then H a else none, [.scr ns], own1, ⟨.ref a, [], [], [], rfl, rfl, ⟨rfl, a, rfl, .inl ⟨o, at_a.trans hs⟩⟩, rfl, rfl⟩, rfl, ?_⟩
    rw [h1 ns hl]
    exact fun v S' H' B f o r => by rw [o.1]; exact k H'
  · refine ⟨fun _ => none, [.scr ns], (fun _ _ e => nomatch e), ⟨.ref a, [], [], [], rfl, rfl, ⟨rfl, a, rfl, .inr fun H => .inr hs⟩, rfl, rfl⟩, rfl, ?_⟩
    rw [h1 ns hl]
    exact fun v S' H' B f o r => by rw [o.1]; exact k H'
end
end EV
namespace EV
open PySem PySem.Spec PyProof.Rows L2 NdefX
/-! ### what the head tells of a text of defs, classes, errors -/
abbrev FnQ : Type := Option (Str × Str × Arguments × FuncBody × Scope × Addr × List Str × Addr)
def fnQ (K : PySem.W.Frag) (a : Addr) : FnQ := match K.lookup a with
  | some ⟨_, _, .func fd, _⟩ => some (fd.name, fd.qualname, fd.params, fd.body, fd.scope, fd.globals, fd.closure.map (·.1), fd.builtins)
  | _ => none
/-- one def of the table: its row, its statement, its qualified name -/
structure DQ where
  d : DR
  st : Stmt
  qual : Str
def DR.at_ (K : PySem.W.Frag) (d : DR) : Addr := match d.kd with
  | .fn _ => He.ga K d.name
  | .void => He.ga K d.name
  | .mt κ c => adr K κ c d.name
  | .ini c => adr K .p c "__init__"
  | .exc c _ _ => adr K .p c "__init__"
def DR.dn (d : DR) : Str := match d.kd with
  | .ini _ => "__init__"
  | .exc _ _ _ => "__init__"
  | _ => d.name
def DR.cl (d : DR) : List Str := match d.kd with
  | .exc _ _ _ => ["__class__"]
  | _ => []
def DQ.val (q : DQ) : FnQ := some (q.d.dn, q.qual, defArgs q.st, .stmts (defBody q.st), defScope q.st, mainGlobals, q.d.cl, builtinsNs)
def noneB : Value → Bool
  | .none => true
  | _ => false
theorem noneB_ok {v : Value} (h : noneB v = true) : v = .none := by cases v <;> first | rfl | cases h
def isNoneA : Option Addr → Bool
  | none => true
  | _ => false
def fileB (K : PySem.W.Frag) (fl : Str) (c : Value) : Bool := match c with
  | .ref cd => (match K.lookup cd with
    | some ⟨_, _, .fields vs, _⟩ => (match (vs[2]? : Option Value) with
      | some (Value.str f _) => f == fl
      | _ => false)
    | _ => false)
  | _ => false
def cellB (K : PySem.W.Frag) (C : Addr) (cl : List (Str × Addr)) : Bool := match cl with
  | [(x, cc)] => decide (x = "__class__") && (match K.lookup cc with
    | some ⟨_, _, .cell (some (.ref D)), _⟩ => decide (D = C)
    | _ => false)
  | _ => false
def fdB (K : PySem.W.Frag) (fl : Str) (q : DQ) (fd : FuncData) : Bool := PySem.W.codeIn K fd.code q.qual && (noneB fd.defaults && (match q.d.kd with
  | .exc c _ _ => noneB fd.kwdefaults && (isNoneA fd.annotations && (fileB K fl fd.code && cellB K (He.ga K c) fd.closure))
  | _ => true))
def oexB (K : PySem.W.Frag) (C : Addr) : Bool := (match K.lookup C with
  | some ⟨.type t, _, .cls ⟨_, _, .ref C' :: bm, _, _, true, _, _, _, _, false⟩, sl⟩ => decide (t = "type") && (decide (C' = C) && ((match sl.toList with
    | [_, _, _, _, some (.builtin b), _] => decide (b = "ValueError.__new__")
    | _ => false) && PySem.HandSPX.refsVE bm))
  | _ => false) && (He.eqO (PySem.W.findIn K (.ref C) "__setattr__") (some (some (.builtin "object.__setattr__"))) && (decide (PySem.W.subIn K (.ref C) (.type "BaseException") = some true) && (decide (PySem.W.typeIn K (.ref C) = some (.type "type")) && PySem.W.keepIn K (.ref C))))
theorem oexB_ok {K : PySem.W.Frag} {C : Addr} (h : oexB K C = true) : OexC K C := by
  obtain ⟨h1, h⟩ := He.ba h
  obtain ⟨h2, h⟩ := He.ba h
  obtain ⟨h3, h⟩ := He.ba h
  obtain ⟨h4, h5⟩ := He.ba h
  refine ⟨?_, He.eqO_ok h2, of_decide_eq_true h3, of_decide_eq_true h4, h5⟩
  clear h2 h3 h4 h5
  split at h1
  · rename_i t dd nm bs C' bm N q sn sub ab col sl e
    obtain ⟨k1, k⟩ := He.ba h1
    obtain ⟨k2, k⟩ := He.ba k
    obtain ⟨k3, k4⟩ := He.ba k
    have k1 := of_decide_eq_true k1
    have k2 := of_decide_eq_true k2
    subst k1 k2
    split at k3
    · rename_i k0 k1 k2 k3' b k5 es
      have kb := of_decide_eq_true k3
      subst kb
      refine ⟨nm, q, N, bs, bm, sn, sub, ab, col, dd, k0, k1, k2, k3', k5, ?_, k4⟩
      rw [e]
      have : sl = #[k0, k1, k2, k3', some (.builtin "ValueError.__new__"), k5] := by
        apply Array.toList_inj.mp
        rw [es]
      rw [this]
    · cases k3
  · cases h1
def supB (K : PySem.W.Frag) (q : DQ) (c : Str) : Bool := He.eqO (PySem.W.nsIn K cStatics "thirdparty.any") (some none) && (He.eqO (PySem.W.ks_superIn K (He.ga K c) (He.ga K c) "__init__") (some (some (.builtin "ValueError.__init__"))) && (decide (PySem.W.mroIn K (He.ga K c) (.ref (He.ga K c)) = some true) &&
  (decide (PySem.W.subIn K (.ref (He.ga K c)) (.type "ValueError") = some true) && (oexB K (He.ga K c)))))
def DQ.ok (K : PySem.W.Frag) (fl : Str) (q : DQ) : Bool := PySem.W.keepIn K (.ref (q.d.at_ K)) && ((match K.lookup (q.d.at_ K) with
  | some ⟨_, _, .func fd, _⟩ => fdB K fl q fd
  | _ => false) && (match q.d.kd with
  | .fn _ => (He.Fa.glo q.d.name).ok K
  | .void => (He.Fa.glo q.d.name).ok K
  | .exc c _ flds => supB K q c && flds.all fun z => He.eqO (PySem.W.findIn K (.ref (He.ga K c)) z.1) (some none)
  | _ => true))
/-- what can be told from the statement alone -/
def DQ.sok (q : DQ) : Bool := match q.d.kd with
  | .exc _ _ _ => nscB q.d.N q.d.ps ["__class__"] (defScope q.st) && (decide ((defScope q.st).names.lookup ("super" : Str) = some .globalImplicit) && (match (defArgs q.st).posonlyargs ++ (defArgs q.st).args, q.d.ps with
    | ar :: _, p :: _ => decide (p = ar.arg)
    | _, _ => false))
  | _ => true
/-- how its parameters are bound -/
def DQ.bd (q : DQ) : Prop := ∀ (cl : List (Str × Addr)) (kV doc pm : Value) (an : Option Addr) (cdv ct : Value) (us : List Value), us.length = q.d.ps.length → bindArgs (PySem.W.fnX q.d.dn q.qual (defArgs q.st) (defBody q.st) (defScope q.st) cl .none kV doc pm an cdv ct) ⟨us, []⟩ = pure (q.d.ps.zip us)
section
variable {P : Program} {K : PySem.W.Frag} {mg : Str → Option Value} {h : Heap} {fl : Str} {q : DQ}
theorem DQ.fun_ (e : fnQ K (q.d.at_ K) = q.val) (c : q.ok K fl = true) (hcl : q.d.cl = []) : ∃ fd, Fun K q.d.dn q.qual q.st (q.d.at_ K) fd := by
  obtain ⟨kp, c⟩ := He.ba c
  obtain ⟨c2, _⟩ := He.ba c
  unfold fnQ at e
  cases l : K.lookup (q.d.at_ K) with
  | none => rw [l] at c2; cases c2
  | some o =>
    obtain ⟨oc, od, dt, osl⟩ := o
    rw [l] at c2 e
    cases dt with
    | func fd =>
      obtain ⟨n1, n2, n3, n4, n5, n6, n7, n8, n9, n10, n11, n12, n13, n14, n15⟩ := fd
      have e2 : (some (n1, n2, n3, n4, n5, n6, n7.map (·.1), n15) : FnQ) = some (q.d.dn, q.qual, defArgs q.st, .stmts (defBody q.st), defScope q.st, mainGlobals, q.d.cl, builtinsNs) := e
      simp only [Option.some.injEq, Prod.mk.injEq] at e2
      obtain ⟨h1, h2, h3, h4, h5, h6, h7, h8⟩ := e2
      have h7 : n7 = [] := by rw [hcl] at h7; simpa using h7
      obtain ⟨k1, k2⟩ := He.ba c2
      obtain ⟨k2, _⟩ := He.ba k2
      have kk2 : n8 = .none := noneB_ok k2
      subst h1 h2 h3 h4 h5 h6 h7 h8 kk2
      exact ⟨_, ⟨oc, od, n9, n10, n11, n12, n13, n14, osl, rfl, l, k1⟩, kp⟩
    | _ => cases c2
theorem DQ.binds_ {fd : FuncData} (b : q.bd) (F : Fun K q.d.dn q.qual q.st (q.d.at_ K) fd) : Binds K fd q.d.ps [] := F.binds fun kV doc pm an cdv ct us hl => b [] kV doc pm an cdv ct us hl
theorem fileB_ok {c : Value} (hc : fileB K fl c = true) : ∃ cd, c = .ref cd ∧ ∃ ccl cdd vs ccs file tf, K.lookup cd = some ⟨ccl, cdd, .fields vs, ccs⟩ ∧ vs[2]? = some (.str file tf) ∧ file = fl := by
  unfold fileB at hc
  split at hc
  · rename_i cd
    split at hc
    · rename_i a b vs s e
      split at hc
      · rename_i f t e2
        exact ⟨cd, rfl, a, b, vs, s, f, t, e, e2, beq_iff_eq.mp hc⟩
      · cases hc
    · cases hc
  · cases hc
theorem cellB_ok {C : Addr} {cl : List (Str × Addr)} (hc : cellB K C cl = true) : ∃ cc u cld csl, cl = [(("__class__" : Str), cc)] ∧ K.lookup cc = some ⟨u, cld, .cell (some (.ref C)), csl⟩ := by
  unfold cellB at hc
  split at hc
  · rename_i x cc
    obtain ⟨h1, h2⟩ := He.ba hc
    have h1 := of_decide_eq_true h1
    subst h1
    split at h2
    · rename_i a b D s e
      have := of_decide_eq_true h2
      subst this
      exact ⟨cc, a, b, s, rfl, e⟩
    · cases h2
  · cases hc
theorem isNoneA_ok {x : Option Addr} (h : isNoneA x = true) : x = none := by cases x <;> first | rfl | cases h
theorem DQ.exc_ {c : Str} {fps : List FP} {flds : List (Str × Nat)} (hk : q.d.kd = .exc c fps flds) (e : fnQ K (q.d.at_ K) = q.val) (co : q.ok K fl = true) (so : q.sok = true) (b : q.bd) (hfl : P.main.file = fl) (sg : mg ("super" : Str) = none) (top : (P.main.scope.names.lookup ("super" : Str)).isSome = false) :
    q.d.said P K mg q.st := by
  have ea : q.d.at_ K = adr K .p c "__init__" := by unfold DR.at_; rw [hk]
  have ecl : q.d.cl = [("__class__" : Str)] := by unfold DR.cl; rw [hk]
  obtain ⟨kp, co⟩ := He.ba co
  obtain ⟨c2, c3⟩ := He.ba co
  rw [hk] at c3
  obtain ⟨c3, c4⟩ := He.ba c3
  obtain ⟨s1, c3⟩ := He.ba c3
  obtain ⟨s2, c3⟩ := He.ba c3
  obtain ⟨s3, c3⟩ := He.ba c3
  obtain ⟨s4, s5⟩ := He.ba c3
  unfold DQ.sok at so
  rw [hk] at so
  obtain ⟨o1, so⟩ := He.ba so
  obtain ⟨o2, o3⟩ := He.ba so
  unfold DR.said
  rw [hk]
  dsimp only
  rw [ea] at c2 e
  unfold fnQ at e
  cases l : K.lookup (adr K .p c "__init__") with
  | none => rw [l] at c2; cases c2
  | some o =>
    obtain ⟨oc, od, dt, osl⟩ := o
    rw [l] at c2 e
    cases dt with
    | func fd =>
      obtain ⟨n1, n2, n3, n4, n5, n6, n7, n8, n9, n10, n11, n12, n13, n14, n15⟩ := fd
      have e2 : (some (n1, n2, n3, n4, n5, n6, n7.map (·.1), n15) : FnQ) = some (q.d.dn, q.qual, defArgs q.st, .stmts (defBody q.st), defScope q.st, mainGlobals, q.d.cl, builtinsNs) := e
      simp only [Option.some.injEq, Prod.mk.injEq] at e2
      obtain ⟨h1, h2, h3, h4, h5, h6, h7, h8⟩ := e2
      obtain ⟨k1, k2⟩ := He.ba c2
      obtain ⟨k2, k3⟩ := He.ba k2
      rw [hk] at k3
      obtain ⟨k3, k4⟩ := He.ba k3
      obtain ⟨k4, k5⟩ := He.ba k4
      obtain ⟨k5, k6⟩ := He.ba k5
      have kk2 : n8 = .none := noneB_ok k2
      have kk3 : n9 = .none := noneB_ok k3
      have kk4 : n12 = none := isNoneA_ok k4
      dsimp only at k1 k5 k6
      obtain ⟨cd, rfl, f1, f2, f3, f4, f5, f6, f7, f8, f9⟩ := fileB_ok k5
      obtain ⟨cc, u, cld, csl, rfl, hcc⟩ := cellB_ok k6
      subst h1 h2 h3 h4 h5 h6 h8 kk2 kk3 kk4
      refine ⟨NF.fd ⟨q.d.dn, q.qual, defArgs q.st, defBody q.st, defScope q.st, [("__class__", cc)], cd⟩ n10 n11 n14, ⟨q.d.dn, q.qual, defArgs q.st, defBody q.st, defScope q.st, [("__class__", cc)], cd⟩, ?_, oexB_ok s5, nscope_by o1, rfl, rfl, ?_, fun z hz => He.eqO_ok (List.all_eq_true.mp c4 z hz)⟩
      · refine ⟨⟨oc, od, osl, n10, n11, n14, l, rfl⟩, k1, ⟨f1, f2, f3, f4, f5, f6, f7, f8, ?_⟩, ⟨cc, u, cld, csl, rfl, hcc⟩, of_decide_eq_true o2, sg, top, He.eqO_ok s1, He.eqO_ok s2, of_decide_eq_true s3, of_decide_eq_true s4, ?_⟩
        · rw [hfl, f9]; exact beq_self_eq_true _
        · show ∃ ar, ((defArgs q.st).posonlyargs ++ (defArgs q.st).args).head? = some ar ∧ q.d.ps.head? = some ar.arg
          split at o3
          · rename_i ar _ p _ e1 e2
            rw [e1, e2, of_decide_eq_true o3]
            exact ⟨ar, rfl, rfl⟩
          · cases o3
      · exact .all fun us hl => b _ _ _ _ _ _ _ us hl
    | _ => cases c2
theorem DQ.said (X : K.In h) (G : h.Ns mainGlobals mg) (e : fnQ K (q.d.at_ K) = q.val) (co : q.ok K fl = true) (so : q.sok = true) (b : q.bd) (hfl : P.main.file = fl) (sg : mg ("super" : Str) = none) (top : (P.main.scope.names.lookup ("super" : Str)).isSome = false) (hq : q.d.kd.isFn = true → q.qual = q.d.name) :
    q.d.said P K mg q.st := by
  cases hk : q.d.kd with
  | exc c fps flds => exact DQ.exc_ hk e co so b hfl sg top
  | fn hot =>
    obtain ⟨fd, F⟩ := DQ.fun_ e co (by unfold DR.cl; rw [hk])
    have bb := DQ.binds_ b F
    have ed : q.d.dn = q.d.name := by unfold DR.dn; rw [hk]
    have eq : q.qual = q.d.name := hq (by rw [hk]; rfl)
    obtain ⟨_, co⟩ := He.ba co
    obtain ⟨_, c3⟩ := He.ba co
    rw [hk] at c3
    have ea : q.d.at_ K = He.ga K q.d.name := by unfold DR.at_; rw [hk]
    unfold DR.said
    rw [hk]
    rw [ed, eq, ea] at F
    exact ⟨_, fd, F, He.glo_ok X G c3, bb⟩
  | void =>
    obtain ⟨fd, F⟩ := DQ.fun_ e co (by unfold DR.cl; rw [hk])
    have bb := DQ.binds_ b F
    have ed : q.d.dn = q.d.name := by unfold DR.dn; rw [hk]
    have eq : q.qual = q.d.name := hq (by rw [hk]; rfl)
    obtain ⟨_, co⟩ := He.ba co
    obtain ⟨_, c3⟩ := He.ba co
    rw [hk] at c3
    have ea : q.d.at_ K = He.ga K q.d.name := by unfold DR.at_; rw [hk]
    unfold DR.said
    rw [hk]
    rw [ed, eq, ea] at F
    exact ⟨_, fd, F, He.glo_ok X G c3, bb⟩
  | mt κ c =>
    obtain ⟨fd, F⟩ := DQ.fun_ e co (by unfold DR.cl; rw [hk])
    have bb := DQ.binds_ b F
    have ea : q.d.at_ K = adr K κ c q.d.name := by unfold DR.at_; rw [hk]
    unfold DR.said
    rw [hk]
    rw [ea] at F
    exact ⟨_, _, fd, F, bb⟩
  | ini c =>
    obtain ⟨fd, F⟩ := DQ.fun_ e co (by unfold DR.cl; rw [hk])
    have bb := DQ.binds_ b F
    have ea : q.d.at_ K = adr K .p c "__init__" := by unfold DR.at_; rw [hk]
    unfold DR.said
    rw [hk]
    rw [ea] at F
    exact ⟨_, _, fd, F, bb⟩
end
/-! ### the classes' facts -/
def gloB (K : PySem.W.Frag) (c : Str) : Bool := (He.Fa.glo c).ok K
def creadB (K : PySem.W.Frag) (C : Addr) : Bool := PySem.W.readsIn K C (.type "type") && He.eqO (PySem.W.specialIn K (.ref C) "__getattribute__") (some (some (.builtin "type.__getattribute__")))
theorem creadB_ok {K : PySem.W.Frag} {C : Addr} (h : creadB K C = true) : ClX.CRead K C (.type "type") := ⟨(He.ba h).1, He.eqO_ok (He.ba h).2⟩
def recB (K : PySem.W.Frag) (p : Addr) (T : String) : Bool := match PySem.W.recIn K p T with
  | some (.ref _ :: _) => true
  | _ => false
/-- C is a plain class with an own __eq__ at f, without __ne__ -/
def keysB (es : List DictEntry) : Bool := es.all fun e => match e.key with
  | .str _ _ => true
  | _ => false
def neB (K : PySem.W.Frag) (C f : Addr) : Bool := (match K.lookup C with
  | some ⟨.type t, _, .cls ⟨_, _, [.ref C', .type o], N, _, _, _, _, _, _, false⟩, sl⟩ => decide (t = "type") && (decide (o = "object") && (decide (C' = C) && ((match sl.toList with
    | [_, _, _, _, some (.builtin _), _] => true
    | _ => false) && (match K.lookup N with
    | some ⟨_, _, .dict es _, _⟩ => keysB es.toList && (decide (nsFind es "__eq__" = some (.ref f)) && decide (nsFind es "__ne__" = none))
    | _ => false))))
  | _ => false) && (match K.lookup f with
  | some ⟨.type t, _, _, _⟩ => decide (t = "function")
  | _ => false)
theorem neB_ok {K : PySem.W.Frag} {C f : Addr} (h : neB K C f = true) : NeC K C f := by
  obtain ⟨h1, h2⟩ := He.ba h
  refine ⟨?_, ?_⟩
  · clear h2 h
    split at h1
    · rename_i t dd nm bs C' o N q hd sn sub ab col sl e
      obtain ⟨k1, k⟩ := He.ba h1
      obtain ⟨k2, k⟩ := He.ba k
      obtain ⟨k3, k⟩ := He.ba k
      obtain ⟨k4, k5⟩ := He.ba k
      have k1 := of_decide_eq_true k1
      have k2 := of_decide_eq_true k2
      have k3 := of_decide_eq_true k3
      subst k1 k2 k3
      split at k4
      · rename_i k0 k1 k2 k3' b k5' es
        have hs : sl = #[k0, k1, k2, k3', some (.builtin b), k5'] := by
          apply Array.toList_inj.mp
          rw [es]
        split at k5
        · rename_i oc od es' ep sl' e2
          obtain ⟨j1, j⟩ := He.ba k5
          obtain ⟨j2, j3⟩ := He.ba j
          refine ⟨nm, q, N, bs, hd, sn, sub, ab, col, dd, k0, k1, k2, k3', k5', b, by rw [e, hs], oc, od, es', ep, sl', e2, fun x hx => ?_, of_decide_eq_true j2, of_decide_eq_true j3⟩
          have := List.all_eq_true.mp j1 x (by simpa using hx)
          split at this
          · rename_i n t e3
            exact ⟨n, t, e3⟩
          · cases this
        · cases k5
      · cases k4
    · cases h1
  · split at h2
    · rename_i t a b c e
      have := of_decide_eq_true h2
      subst this
      exact ⟨_, e, rfl⟩
    · cases h2
def Fk.tst (K : PySem.W.Frag) : Fk → Bool
  | .fld c n => (He.Fa.cls c).ok K && (He.Fa.noat c n).ok K
  | .make c => gloB K c && (He.Fa.mkr c).ok K
  | .prop c n => (He.Fa.cls c).ok K && (He.eqO (PySem.W.findIn K (.ref (He.ga K c)) n) (some (some (.ref (He.ma K (He.ga K c) n)))) && (He.eqO (PySem.W.specialIn K (.ref (He.ma K (He.ga K c) n)) "__get__") (some (some (.builtin "property.__get__"))) &&
      (decide (PySem.W.takesIn K (.ref (He.ma K (He.ga K c) n)) = some true) && recB K (He.ma K (He.ga K c) n) "property")))
  | .meth c n => (He.Fa.cls c).ok K && (He.Fa.meth c n).ok K
  | .stat c n => gloB K c && (creadB K (He.ga K c) && (He5.wrapB K (He.ga K c) "staticmethod" "staticmethod.__get__" n && PySem.W.keepIn K (.ref (adr K .s c n))))
  | .con c n i => gloB K c && (creadB K (He.ga K c) && (match PySem.W.findCls K (.ref (He.ga K c)) (.type "type") n with
      | some (.val (.int j _)) => decide (j = i)
      | _ => false))
  | .inc c => He.eqO (PySem.W.findIn K (.ref (He.ga K c)) "__contains__") (some (some (.ref (adr K .p c "__contains__")))) && PySem.W.isFn K (.ref (adr K .p c "__contains__"))
  | .eqc c => He.eqO (PySem.W.findIn K (.ref (He.ga K c)) "__eq__") (some (some (.ref (adr K .p c "__eq__")))) && (PySem.W.isFn K (.ref (adr K .p c "__eq__")) && PySem.W.notFirst K (He.ga K c) (.type "tuple"))
  | .nec c => neB K (He.ga K c) (adr K .p c "__eq__")
  | .cls c => gloB K c && !decide (c = "ValueError")
  | .xfl c n => xfB K (He.ga K c) && He.eqO (PySem.W.findIn K (.ref (He.ga K c)) n) (some none)
  | .rai c => gloB K c && (oexB K (He.ga K c) && (He.eqO (PySem.W.findIn K (.ref (He.ga K c)) "__init__") (some (some (.ref (adr K .p c "__init__")))) && decide (PySem.W.typeIn K (.ref (adr K .p c "__init__")) = some (.type "function"))))
theorem Fk.of {K : PySem.W.Frag} {mg : Str → Option Value} {h : Heap} (X : K.In h) (G : h.Ns mainGlobals mg) : ∀ f : Fk, f.tst K = true → f.holds K mg
  | .fld c n, e => ⟨He.cls_ok (He.ba e).1, He.noat_ok (He.ba e).2⟩
  | .make c, e => ⟨He.glo_ok X G (He.ba e).1, He.mkr_ok (He.ba e).2⟩
  | .prop c n, e => by
    obtain ⟨h1, e⟩ := He.ba e
    obtain ⟨h2, e⟩ := He.ba e
    obtain ⟨h3, e⟩ := He.ba e
    obtain ⟨h4, h5⟩ := He.ba e
    refine ⟨He.cls_ok h1, He.eqO_ok h2, He.eqO_ok h3, of_decide_eq_true h4, ?_⟩
    unfold recB at h5
    split at h5
    · rename_i g r e
      exact ⟨r, by simp only [adr, e]⟩
    · cases h5
  | .meth c n, e => ⟨He.cls_ok (He.ba e).1, He.meth_ok (He.ba e).2⟩
  | .stat c n, e => by
    obtain ⟨h1, e⟩ := He.ba e
    obtain ⟨h2, e⟩ := He.ba e
    obtain ⟨h3, h4⟩ := He.ba e
    obtain ⟨k1, r, k2⟩ := He5.wrapB_ok h3
    have ea : adr K .s c n = He5.wf K (He.ga K c) "staticmethod" n := rfl
    exact ⟨He.glo_ok X G h1, creadB_ok h2, k1, ⟨r, by rw [ea]; exact k2⟩, h4⟩
  | .con c n i, e => by
    obtain ⟨h1, e⟩ := He.ba e
    obtain ⟨h2, h3⟩ := He.ba e
    refine ⟨He.glo_ok X G h1, creadB_ok h2, ?_⟩
    split at h3
    · rename_i j t e1
      have := of_decide_eq_true h3
      subst this
      exact ⟨.int j t, e1, t, rfl⟩
    · cases h3
  | .inc c, e => ⟨He.eqO_ok (He.ba e).1, (He.ba e).2⟩
  | .eqc c, e => ⟨He.eqO_ok (He.ba e).1, (He.ba (He.ba e).2).1, (He.ba (He.ba e).2).2⟩
  | .nec c, e => neB_ok e
  | .cls c, e => ⟨He.glo_ok X G (He.ba e).1, by simpa using (He.ba e).2⟩
  | .xfl c n, e => ⟨xfB_ok (He.ba e).1, He.eqO_ok (He.ba e).2⟩
  | .rai c, e => by
    obtain ⟨h1, e⟩ := He.ba e
    obtain ⟨h2, e⟩ := He.ba e
    obtain ⟨h3, h4⟩ := He.ba e
    exact ⟨He.glo_ok X G h1, oexB_ok h2, He.eqO_ok h3, of_decide_eq_true h4⟩
/-! ### which class stands under which -/
def kindsT : List String := ["NoneType", "bool", "int", "str", "list", "tuple", "dict"]
/-- the plain classes (each only under itself), the errors (which stands under which) -/
structure CT where
  pl : List Str
  xc : List (Str × Str × Bool)
def CT.sub (t : CT) (c' c : Str) : Option Bool := if decide (c' ∈ t.pl) && decide (c ∈ t.pl) then some (decide (c' = c)) else none
def CT.xsub (t : CT) (c' c : Str) : Option Bool := (t.xc.find? fun z => decide (z.1 = c') && decide (z.2.1 = c)).map (·.2.2)
def insB (K : PySem.W.Frag) (c : Str) : Bool := (He.Fa.cls c).ok K && (He.eqO (PySem.W.findIn K (.ref (He.ga K c)) "__class__") (some (some (.builtin "object.__class__"))) && (He.eqO (PySem.W.specialIn K (.builtin "object.__class__") "__get__") (some (some (.builtin "getset_descriptor.__get__"))) &&
  (decide (PySem.W.takesIn K (.builtin "object.__class__") = some true) && (decide (PySem.W.mroIn K (He.ga K c) (.type "object") = some true) && decide (PySem.W.kitOne K (.ref (He.ga K c)) (.ref (He.ga K c)) = some true)))))
theorem insB_ok {K : PySem.W.Frag} {c : Str} (h : insB K c = true) : C8.InsC K (He.ga K c) := by
  obtain ⟨h1, h⟩ := He.ba h
  obtain ⟨h2, h⟩ := He.ba h
  obtain ⟨h3, h⟩ := He.ba h
  obtain ⟨h4, h⟩ := He.ba h
  obtain ⟨h5, h6⟩ := He.ba h
  exact ⟨He.cls_ok h1, He.eqO_ok h2, He.eqO_ok h3, of_decide_eq_true h4, of_decide_eq_true h5, of_decide_eq_true h6⟩
def excB' (K : PySem.W.Frag) (D : Addr) : Bool := He.eqO (PySem.W.findIn K (.ref D) "__getattribute__") (some (some (.builtin "BaseException.__getattribute__"))) && (He.eqO (PySem.W.findIn K (.ref D) "__getattr__") (some none) && (decide (PySem.W.subIn K (.ref D) (.type "BaseException") = some true) && (PySem.W.hasDictIn K D &&
  (He.eqO (PySem.W.findIn K (.ref D) "__class__") (some (some (.builtin "object.__class__"))) && (He.eqO (PySem.W.specialIn K (.builtin "object.__class__") "__get__") (some (some (.builtin "getset_descriptor.__get__"))) && (decide (PySem.W.takesIn K (.builtin "object.__class__") = some true) && decide (PySem.W.mroIn K D (.type "object") = some true)))))))
theorem excB'_ok {K : PySem.W.Frag} {D : Addr} (h : excB' K D = true) : ExcC K D := by
  obtain ⟨h1, h⟩ := He.ba h
  obtain ⟨h2, h⟩ := He.ba h
  obtain ⟨h3, h⟩ := He.ba h
  obtain ⟨h4, h⟩ := He.ba h
  obtain ⟨h5, h⟩ := He.ba h
  obtain ⟨h6, h⟩ := He.ba h
  obtain ⟨h7, h8⟩ := He.ba h
  exact ⟨He.eqO_ok h1, He.eqO_ok h2, of_decide_eq_true h3, h4, He.eqO_ok h5, He.eqO_ok h6, of_decide_eq_true h7, of_decide_eq_true h8⟩
def CT.tst (K : PySem.W.Frag) (t : CT) : Bool := (t.pl.all fun c => insB K c && ((kindsT.all fun k => decide (PySem.W.kitOne K (.type k) (.ref (He.ga K c)) = some false)) && (t.pl.all fun c' => decide (PySem.W.kitOne K (.ref (He.ga K c')) (.ref (He.ga K c)) = some (decide (c' = c)))))) &&
  (t.xc.all fun z => excB' K (He.ga K z.1) && (decide (PySem.W.exmOne K (.ref (He.ga K z.1)) (clsU K z.2.1) = some z.2.2) && decide (PySem.W.kitOne K (.ref (He.ga K z.1)) (clsU K z.2.1) = some z.2.2)))
def CT.cs (t : CT) (fc : List Fk) : Cs' := ⟨t.sub, t.xsub, fc⟩
theorem CT.fk {K : PySem.W.Frag} {t : CT} {fc : List Fk} (h : t.tst K = true) (Φ : Nat → FD) : FK K ((t.cs fc).tab Φ) := by
  obtain ⟨h1, h2⟩ := He.ba h
  have h1 := List.all_eq_true.mp h1
  have h2 := List.all_eq_true.mp h2
  refine ⟨fun c e k hk => ?_, fun c' c b e => ?_, fun c' c b e => ?_⟩
  · have e : (CT.sub t c c).isSome = true := e
    unfold CT.sub at e
    split at e
    · rename_i m
      have hc := of_decide_eq_true (He.ba m).1
      have := List.all_eq_true.mp (He.ba (He.ba (h1 c hc)).2).1 k hk
      exact of_decide_eq_true this
    · cases e
  · have e : CT.sub t c' c = some b := e
    unfold CT.sub at e
    split at e
    · rename_i m
      have hc' := of_decide_eq_true (He.ba m).1
      have hc := of_decide_eq_true (He.ba m).2
      cases e
      exact ⟨insB_ok (He.ba (h1 c' hc')).1, of_decide_eq_true (List.all_eq_true.mp (He.ba (He.ba (h1 c hc)).2).2 c' hc')⟩
    · cases e
  · have e : CT.xsub t c' c = some b := e
    unfold CT.xsub at e
    cases hf : t.xc.find? fun z => decide (z.1 = c') && decide (z.2.1 = c) with
    | none => rw [hf] at e; cases e
    | some z =>
      rw [hf] at e
      have hm := List.mem_of_find?_eq_some hf
      have hp := List.find?_some hf
      obtain ⟨e1, e2⟩ := He.ba hp
      have e1 := of_decide_eq_true e1
      have e2 := of_decide_eq_true e2
      cases e
      obtain ⟨k1, k⟩ := He.ba (h2 z hm)
      obtain ⟨k2, k3⟩ := He.ba k
      rw [← e1, ← e2]
      exact ⟨of_decide_eq_true k2, excB'_ok k1, of_decide_eq_true k3⟩
/-! ### the Hook -/
/-- a text: its defs, the newest first, with their statements; its classes -/
structure TX where
  qs : List DQ
  ct : CT
  fc : List Fk
  fl : Str
abbrev AlQ : Type := Bool × List FnQ
def freeN : List Str := "super" :: biNames
def TX.tst (t : TX) (K : PySem.W.Frag) : Bool := (freeN.all fun x => (He.Fa.free x).ok K) && ((t.qs.all fun q => q.ok K t.fl) && ((t.fc.all fun f => f.tst K) && t.ct.tst K))
def TX.obs (t : TX) (K : PySem.W.Frag) : AlQ := (t.tst K, t.qs.map fun q => fnQ K (q.d.at_ K))
def TX.val (t : TX) : AlQ := (true, t.qs.map DQ.val)
def TX.says (t : TX) (K : PySem.W.Frag) : Prop := t.obs K = t.val
def TX.obsG (n : Nat) (t : TX) (g : Addr → Option Obj) : AlQ := t.obs (He.frG g (He5.asA g n))
def TX.hook (n : Nat) (t : TX) : PySem.W.Hook where
  α := AlQ
  obs := fun s => t.obsG n s.heap.get?
  val := fun _ => t.val
  says := fun _ h => ∃ K : PySem.W.Frag, K.In h ∧ t.says K
  of := fun _ _ e => ⟨_, He.frG_in, e⟩
  keeps := fun _ _ _ ⟨K, hK, c⟩ k => ⟨K, PySem.W.Frag.In.keeps hK k, c⟩
theorem TX.obsG_eq {n : Nat} {t : TX} {g : Addr → Option Obj} {s : Shared} (h : ∀ a, g a = s.heap.get? a) : t.obsG n g = (t.hook n).obs s := by
  have e : g = s.heap.get? := funext h
  rw [e] <;> rfl
section
variable {P : Program} {w : World} {K : PySem.W.Frag} {mg : Str → Option Value} {h base : Heap} {t : TX}
theorem TX.parts (c : t.says K) : (∀ x ∈ freeN, (He.Fa.free x).ok K = true) ∧ (∀ q ∈ t.qs, q.ok K t.fl = true) ∧ (∀ f ∈ t.fc, f.tst K = true) ∧ t.ct.tst K = true ∧ ∀ q ∈ t.qs, fnQ K (q.d.at_ K) = q.val := by
  have c1 : t.tst K = true := congrArg (fun z : AlQ => z.1) c
  have c2 : (t.qs.map fun q => fnQ K (q.d.at_ K)) = t.qs.map DQ.val := congrArg (fun z : AlQ => z.2) c
  obtain ⟨h1, c1⟩ := He.ba c1
  obtain ⟨h2, c1⟩ := He.ba c1
  obtain ⟨h3, h4⟩ := He.ba c1
  exact ⟨List.all_eq_true.mp h1, List.all_eq_true.mp h2, List.all_eq_true.mp h3, h4, List.map_inj_left.mp c2⟩
theorem TX.said (X : K.In h) (G : h.Ns mainGlobals mg) (c : t.says K) (hfl : P.main.file = t.fl) (top : (P.main.scope.names.lookup ("super" : Str)).isSome = false) (so : ∀ q ∈ t.qs, q.sok = true) (b : ∀ q ∈ t.qs, q.bd) (hq : ∀ q ∈ t.qs, q.d.kd.isFn = true → q.qual = q.d.name) :
    ∀ q ∈ t.qs, q.d.said P K mg q.st := fun q hm => by
  obtain ⟨h1, h2, h3, h4, h5⟩ := TX.parts c
  exact DQ.said X G (h5 q hm) (h2 q hm) (so q hm) (b q hm) hfl (He.free_ok X G (h1 _ (List.mem_cons_self))) top (hq q hm)
/-- the text's last def, by what it does -/
theorem TX.law_ok (X : K.In h) (G : h.Ns mainGlobals mg) (c : t.says K) (hfl : P.main.file = t.fl) (top : (P.main.scope.names.lookup ("super" : Str)).isSome = false) (so : ∀ q ∈ t.qs, q.sok = true) (b : ∀ q ∈ t.qs, q.bd) (hq : ∀ q ∈ t.qs, q.d.kd.isFn = true → q.qual = q.d.name)
    (ok : okR t.fc (t.qs.map DQ.d) (t.qs.map DQ.st) = true) {q0 : DQ} {r : List DQ} (h0 : t.qs = q0 :: r) {hot : Bool} (hk : q0.d.kd = .fn hot) (xq : XQ) :
    ∃ (a : Addr) (fd : FuncData), Fun K q0.d.name q0.d.name q0.st a fd ∧ mg q0.d.name = some (.ref a) ∧ Binds K fd q0.d.ps [] ∧
      ∀ base : Heap, FnOk P w K mg base (L2N.CX P w) (2 * r.length + 1) a fd q0.d.ps (spF ⟨K, xq⟩ K q0.d.ps.length (tabR (t.ct.cs t.fc) (t.qs.map DQ.d) r.length).sem) := by
  obtain ⟨h1, h2, h3, h4, h5⟩ := TX.parts c
  have sd := TX.said X G c hfl top so b hq
  have s0 := sd q0 (by rw [h0]; exact List.mem_cons_self)
  have s0' := s0
  unfold DR.said at s0'
  rw [hk] at s0'
  obtain ⟨a, fd, F, m, bb⟩ := s0'
  refine ⟨a, fd, F, m, bb, fun base => ?_⟩
  rw [h0] at ok sd ⊢
  simp only [List.map_cons, okR, Bool.and_eq_true] at ok
  obtain ⟨od, okr⟩ := ok
  unfold okD at od
  rw [hk] at od
  obtain ⟨od1, _⟩ := He.ba od
  obtain ⟨od1, od2⟩ := He.ba od1
  have g0 := all_ok (P := P) (w := w) (K := K) (mg := mg) (base := base) (cl := t.ct.cs t.fc) (fun Φ => CT.fk h4 Φ) (fun x hx => He.free_ok X G (h1 x (List.mem_cons_of_mem _ hx))) (fun f hf => Fk.of X G f (h3 f hf)) (r.map DQ.d) (r.map DQ.st) okr fun i d st e1 e2 => by
    rw [List.getElem?_map] at e1 e2
    cases hqi : r[i]? with
    | none => rw [hqi] at e1; cases e1
    | some q =>
      rw [hqi] at e1 e2
      cases e1
      cases e2
      exact sd q (List.mem_cons_of_mem _ (List.mem_of_getElem? hqi))
  rw [List.length_map] at g0
  have g : Gs (nmR t.fc (r.map DQ.d)) ((t.ct.cs t.fc).tab (tabR (t.ct.cs t.fc) (r.map DQ.d))).fd (2 * r.length) P w K mg base := g0
  have ht : tabR (t.ct.cs t.fc) (q0.d :: r.map DQ.d) r.length = q0.d.fd (t.ct.cs t.fc) (tabR (t.ct.cs t.fc) (r.map DQ.d)) := by
    simp only [tabR, List.length_map, if_true]
  rw [List.map_cons, ht]
  simp only [DR.fd, hk]
  exact def_fn (Φ := (t.ct.cs t.fc).tab (tabR (t.ct.cs t.fc) (r.map DQ.d))) F od1 od2 g (CT.fk h4 _) rfl xq
end
/-- the law called: what its def does, where the errors' promise may speak of the world -/
theorem walkW {l : PySem.W.OpenLaw} {m lv : Nat} {pg : Program} {ns0 : List Str} {XP : (Str → Option Value) → Heap → Prop} {YP : World → Heap → Prop} {dr : DefRec} {C : World → CXT} {arg : Str}
    (most : l.most = some m) (ml : m ≤ sizeLine) (nd : dr.params.defaults = []) (room : Room lv callerA)
    (D : ∀ (W : World) (G : Str → Option Value) (z : Addr) (h0 : Heap), YP W h0 → h0.Ns mainGlobals G → G dr.name = some (.ref z) →
      ∃ (K0 : PySem.W.Frag) (fdata : FuncData) (sp0 : Sp), K0.In h0 ∧ (∀ (sh : Shared) (v : Value), BindsTo sh fdata ⟨[v], []⟩ [(arg, v)]) ∧
        (∀ (H0 : Hp) (p : Addr) (is : List Int), is.length ≤ m → Only H0 → SqL K0 H0 p (is.map V.int) → sp0 [.ref p] H0 (fun r _ => r = .bl true) fun _ _ _ => False) ∧
        ∀ b0 : Heap, K0.In b0 → b0.Ns mainGlobals G → FnOk l.prog W K0 G b0 (C W) lv z fdata [arg] sp0)
    (no : ∀ (W : World) (H0 : Hp) (s0 : Shared) (x : Value) (s1 : Shared), C W [] H0 s0 (fun _ _ _ => False) x s1 → False) :
    PySem.W.WalkO pg ns0 XP YP l.row.toRowW dr [] (fun g us => PySem.call g us) :=
  Att.attach_call most nd fun W s₀ s₁ G mb z o pm cd doc a vs is T Yh ho hd hcd hG hobj hints hlen hg => by
    obtain ⟨K0, fdata, sp0, i1, i2, i3, i4⟩ := D W G z _ Yh T.T.g hG
    exact law_call i1 T.T.g T.T.b T.T.builtins T.T.nolimit hg hobj hints (Nat.le_trans hlen ml) room i4 i2 (fun H0 hO hS => i3 H0 a is hlen hO hS) fun H0 x s2 => no W H0 s₁ x s2
end EV
namespace EV
open PySem L2
/-! ### what a run must give -/
def Wp {α : Type} (r : R α) (Q : α → Prop) : Prop := ∃ a, r = .ok a ∧ Q a
theorem wp_ok {α : Type} {a : α} {Q : α → Prop} : Wp (.ok a) Q ↔ Q a := ⟨fun ⟨b, e, h⟩ => by cases e; exact h, fun h => ⟨a, rfl, h⟩⟩
theorem wp_bind {α β : Type} {r : R α} {f : α → R β} {Q : β → Prop} : Wp (r.bind f) Q ↔ Wp r fun a => Wp (f a) Q := by
  constructor
  · rintro ⟨b, e, h⟩
    cases r with
    | ok a => exact ⟨a, rfl, b, e, h⟩
    | ex x => cases e
    | st => cases e
  · rintro ⟨a, rfl, h⟩; exact h
def nxQ (f : Env → R Out) (Q : Out → Prop) : Out → Prop
  | .nx env => Wp (f env) Q
  | o => Q o
theorem wp_nx {r : R Out} {f : Env → R Out} {Q : Out → Prop} : Wp (r.nx f) Q ↔ Wp r (nxQ f Q) := by
  unfold R.nx
  rw [wp_bind]
  constructor
  · rintro ⟨o, e, h⟩
    refine ⟨o, e, ?_⟩
    cases o with
    | nx env => exact h
    | _ => exact (wp_ok (Q := Q)).mp h
  · rintro ⟨o, e, h⟩
    refine ⟨o, e, ?_⟩
    cases o with
    | nx env => exact h
    | _ => exact (wp_ok (Q := Q)).mpr h
theorem nxQ_nx {f : Env → R Out} {Q : Out → Prop} {env : Env} : nxQ f Q (.nx env) ↔ Wp (f env) Q := Iff.rfl
theorem nxQ_rt {f : Env → R Out} {Q : Out → Prop} {d : D} : nxQ f Q (.rt d) ↔ Q (.rt d) := Iff.rfl
theorem wp_ite {α : Type} {b : Bool} {x y : R α} {Q : α → Prop} : Wp (if b = true then x else y) Q ↔ (b = true → Wp x Q) ∧ (b = false → Wp y Q) := by
  cases b <;> simp
theorem ok_bind {α β : Type} {a : α} {f : α → R β} : (R.ok a).bind f = f a := rfl
theorem ok_nx {env : Env} {f : Env → R Out} : (R.ok (Out.nx env)).nx f = f env := rfl
theorem ok_rt {d : D} {f : Env → R Out} : (R.ok (Out.rt d)).nx f = R.ok (.rt d) := rfl
theorem wp_if {α : Type} {p : Prop} [Decidable p] {x y : R α} {Q : α → Prop} : Wp (if p then x else y) Q ↔ (p → Wp x Q) ∧ (¬p → Wp y Q) := by
  by_cases h : p <;> simp [h]
theorem wp_imp {α : Type} {r : R α} {Q Q' : α → Prop} (h : Wp r Q) (k : ∀ a, Q a → Q' a) : Wp r Q' := by
  obtain ⟨a, e, q⟩ := h
  exact ⟨a, e, k a q⟩
theorem wp_noEx {α : Type} {r : R α} {Q : α → Prop} : Wp (noEx r) Q ↔ Wp r Q := by
  constructor
  · rintro ⟨a, e, h⟩
    cases r with
    | ok b => exact ⟨a, e, h⟩
    | ex x => cases e
    | st => cases e
  · rintro ⟨a, rfl, h⟩; exact ⟨a, rfl, h⟩
theorem wp_of {α : Type} {o : Option α} {Q : α → Prop} : Wp (R.of o) Q ↔ ∃ a, o = some a ∧ Q a := by
  constructor
  · rintro ⟨a, e, h⟩
    cases o with
    | none => cases e
    | some b => cases e; exact ⟨_, rfl, h⟩
  · rintro ⟨a, rfl, h⟩; exact ⟨a, rfl, h⟩
theorem wp_eq {α : Type} {r : R α} {a : α} (h : Wp r fun b => b = a) : r = .ok a := by
  obtain ⟨b, e, rfl⟩ := h; exact e
def Post (I : Nat → Env → Prop) (n : Nat) (o : Out) : Prop := ∃ e', (o = .nx e' ∨ o = .ct e') ∧ I n e'
theorem post_nx {I : Nat → Env → Prop} {n : Nat} {e : Env} (h : I n e) : Post I n (.nx e) := ⟨e, .inl rfl, h⟩
/-- a loop by its invariant -/
theorem wp_for {body : D → Env → R Out} {ds : List D} {env : Env} {Q : Out → Prop} (I : Nat → Env → Prop) (h0 : I 0 env)
    (hs : ∀ i d e, ds[i]? = some d → I i e → Wp (body d e) (Post I (i + 1))) (hq : ∀ e, I ds.length e → Q (.nx e)) : Wp (forL body ds env) Q := by
  induction ds generalizing env I with
  | nil => exact ⟨_, rfl, hq _ h0⟩
  | cons d ds ih =>
    unfold forL
    rw [wp_bind]
    refine wp_imp (hs 0 d env rfl h0) ?_
    rintro o ⟨e', rfl | rfl, h1⟩
    · exact ih (fun i e => I (i + 1) e) h1 (fun i x e hx hi => hs (i + 1) x e (by simpa using hx) hi) hq
    · exact ih (fun i e => I (i + 1) e) h1 (fun i x e hx hi => hs (i + 1) x e (by simpa using hx) hi) hq
def Down (I : Nat → Env → Prop) (k : Nat) (o : Out) : Prop := ∃ e' k', o = .nx e' ∧ k' < k ∧ I k' e'
theorem down_nx {I : Nat → Env → Prop} {k : Nat} {e : Env} (k' : Nat) (h : k' < k) (i : I k' e) : Down I k (.nx e) := ⟨e, k', rfl, h, i⟩
theorem wp_while {test : Env → R Bool} {body : Env → R Out} {n : Nat} {env : Env} {Q : Out → Prop} (I : Nat → Env → Prop) {m : Nat} (hm : m < n) (h0 : I m env)
    (hs : ∀ k e, I k e → Wp (test e) fun b => if b = true then Wp (body e) (Down I k) else Q (.nx e)) : Wp (whileN test body n env) Q := by
  induction n generalizing m env with
  | zero => exact absurd hm (Nat.not_lt_zero _)
  | succ n ih =>
    unfold whileN
    rw [wp_bind]
    refine wp_imp (hs m env h0) ?_
    intro b hb
    cases b with
    | false => exact ⟨_, rfl, hb⟩
    | true =>
      show Wp (R.bind _ _) Q
      rw [wp_bind]
      refine wp_imp hb ?_
      rintro o ⟨e', k', rfl, hk, h1⟩
      exact ih (m := k') (by omega) h1
/-- a loop by its invariant, that may hand back -/
theorem wp_forR {body : D → Env → R Out} {ds : List D} {env : Env} {Q : Out → Prop} (I : Nat → Env → Prop) (h0 : I 0 env)
    (hs : ∀ i d e, ds[i]? = some d → I i e → Wp (body d e) fun o => Post I (i + 1) o ∨ ∃ x, o = .rt x ∧ Q (.rt x)) (hq : ∀ e, I ds.length e → Q (.nx e)) : Wp (forL body ds env) Q := by
  induction ds generalizing env I with
  | nil => exact ⟨_, rfl, hq _ h0⟩
  | cons d ds ih =>
    unfold forL
    rw [wp_bind]
    refine wp_imp (hs 0 d env rfl h0) ?_
    rintro o (⟨e', rfl | rfl, h1⟩ | ⟨x, rfl, h1⟩)
    · exact ih (fun i e => I (i + 1) e) h1 (fun i x e hx hi => hs (i + 1) x e (by simpa using hx) hi) hq
    · exact ih (fun i e => I (i + 1) e) h1 (fun i x e hx hi => hs (i + 1) x e (by simpa using hx) hi) hq
    · exact ⟨_, rfl, h1⟩
/-! ### what a run must give, errors too -/
def Wq {α : Type} (r : R α) (Q : α → Prop) (E : Exc → Prop) : Prop := match r with
  | .ok a => Q a
  | .ex x => E x
  | .st => False
theorem wq_ok {α : Type} {a : α} {Q : α → Prop} {E : Exc → Prop} : Wq (.ok a) Q E ↔ Q a := Iff.rfl
theorem wq_ex {α : Type} {x : Exc} {Q : α → Prop} {E : Exc → Prop} : Wq (.ex x : R α) Q E ↔ E x := Iff.rfl
theorem wq_st {α : Type} {Q : α → Prop} {E : Exc → Prop} : Wq (.st : R α) Q E ↔ False := Iff.rfl
theorem wq_bind {α β : Type} {r : R α} {f : α → R β} {Q : β → Prop} {E : Exc → Prop} : Wq (r.bind f) Q E ↔ Wq r (fun a => Wq (f a) Q E) E := by cases r <;> exact Iff.rfl
def nxQq (f : Env → R Out) (Q : Out → Prop) (E : Exc → Prop) : Out → Prop
  | .nx env => Wq (f env) Q E
  | o => Q o
theorem wq_nx {r : R Out} {f : Env → R Out} {Q : Out → Prop} {E : Exc → Prop} : Wq (r.nx f) Q E ↔ Wq r (nxQq f Q E) E := by
  unfold R.nx
  cases r with
  | ok o => cases o <;> exact Iff.rfl
  | ex x => exact Iff.rfl
  | st => exact Iff.rfl
theorem nxQq_nx {f : Env → R Out} {Q : Out → Prop} {E : Exc → Prop} {env : Env} : nxQq f Q E (.nx env) ↔ Wq (f env) Q E := Iff.rfl
theorem nxQq_rt {f : Env → R Out} {Q : Out → Prop} {E : Exc → Prop} {d : D} : nxQq f Q E (.rt d) ↔ Q (.rt d) := Iff.rfl
theorem wq_if {α : Type} {p : Prop} [Decidable p] {x y : R α} {Q : α → Prop} {E : Exc → Prop} : Wq (if p then x else y) Q E ↔ (p → Wq x Q E) ∧ (¬p → Wq y Q E) := by
  by_cases h : p <;> simp [h]
theorem wq_noEx {α : Type} {r : R α} {Q : α → Prop} {E : Exc → Prop} : Wq (noEx r) Q E ↔ Wq r Q fun _ => False := by cases r <;> exact Iff.rfl
theorem wq_imp {α : Type} {r : R α} {Q Q' : α → Prop} {E E' : Exc → Prop} (h : Wq r Q E) (k : ∀ a, Q a → Q' a) (kx : ∀ x, E x → E' x) : Wq r Q' E' := by
  cases r with
  | ok a => exact k a h
  | ex x => exact kx x h
  | st => exact h
theorem wp_q {α : Type} {r : R α} {Q : α → Prop} (h : Wp r Q) {E : Exc → Prop} : Wq r Q E := by
  obtain ⟨a, rfl, h⟩ := h; exact h
theorem wq_p {α : Type} {r : R α} {Q : α → Prop} (h : Wq r Q fun _ => False) : Wp r Q := by
  cases r with
  | ok a => exact ⟨a, rfl, h⟩
  | ex x => exact h.elim
  | st => exact h.elim
theorem wq_forR {body : D → Env → R Out} {ds : List D} {env : Env} {Q : Out → Prop} {E : Exc → Prop} (I : Nat → Env → Prop) (h0 : I 0 env)
    (hs : ∀ i d e, ds[i]? = some d → I i e → Wq (body d e) (fun o => Post I (i + 1) o ∨ ∃ x, o = .rt x ∧ Q (.rt x)) E) (hq : ∀ e, I ds.length e → Q (.nx e)) : Wq (forL body ds env) Q E := by
  induction ds generalizing env I with
  | nil => exact hq _ h0
  | cons d ds ih =>
    unfold forL
    rw [wq_bind]
    refine wq_imp (hs 0 d env rfl h0) ?_ (fun _ h => h)
    rintro o (⟨e', rfl | rfl, h1⟩ | ⟨x, rfl, h1⟩)
    · exact ih (fun i e => I (i + 1) e) h1 (fun i x e hx hi => hs (i + 1) x e (by simpa using hx) hi) hq
    · exact ih (fun i e => I (i + 1) e) h1 (fun i x e hx hi => hs (i + 1) x e (by simpa using hx) hi) hq
    · exact h1
/-- a comprehension by a function -/
theorem compL_eq {α : Type} {turn : D → R (Option D)} {f : α → D} {g : α → Option D} : ∀ (xs : List α) (acc : List D), (∀ x ∈ xs, turn (f x) = .ok (g x)) → (∀ x ∈ xs, ∀ d, g x = some d → clean d = true) → acc.length + xs.length ≤ sizeLine →
    compL turn (xs.map f) acc = .ok (acc ++ xs.filterMap g)
  | [], acc, _, _, _ => by simp [compL]
  | x :: xs, acc, h1, h2, h3 => by
    rw [List.map_cons, compL, h1 x (by simp)]
    have h3' : acc.length + (xs.length + 1) ≤ sizeLine := by simpa using h3
    cases e : g x with
    | none =>
      show compL turn (xs.map f) acc = _
      rw [compL_eq xs acc (fun y hy => h1 y (by simp [hy])) (fun y hy => h2 y (by simp [hy])) (by omega), List.filterMap_cons, e]
    | some d =>
      show (if clean d && decide (acc.length < sizeLine) then compL turn (xs.map f) (acc ++ [d]) else R.st) = _
      have hl : acc.length < sizeLine := by omega
      rw [if_pos (by rw [h2 x (by simp) d e, decide_eq_true hl]; rfl), compL_eq xs (acc ++ [d]) (fun y hy => h1 y (by simp [hy])) (fun y hy => h2 y (by simp [hy])) (by simp; omega), List.filterMap_cons, e]
      simp
/-! ### lists of ints, of pairs, of lists -/
def li (L : List Int) : List D := L.map .int
def pr (T : List (Int × Int)) : List D := T.map fun t => .tup [.int t.1, .int t.2]
def ll (f : Fl) (G : List (List Int)) : List D := G.map fun g => .lst f (li g)
theorem li_len {L : List Int} : (li L).length = L.length := List.length_map ..
theorem pr_len {L : List (Int × Int)} : (pr L).length = L.length := List.length_map ..
theorem ll_len {f : Fl} {L : List (List Int)} : (ll f L).length = L.length := List.length_map ..
theorem li_app {L : List Int} {x : Int} : li L ++ [.int x] = li (L ++ [x]) := by simp [li]
theorem pr_app {L : List (Int × Int)} {x y : Int} : pr L ++ [.tup [.int x, .int y]] = pr (L ++ [(x, y)]) := by simp [pr]
theorem ll_app {f : Fl} {L : List (List Int)} {x : List Int} : ll f L ++ [.lst f (li x)] = ll f (L ++ [x]) := by simp [ll]
theorem li_zz : ∀ L : List Int, zzs (li L) = li L
  | [] => rfl | x :: L => congrArg (D.int x :: ·) (li_zz L)
theorem li_bb : ∀ L : List Int, bbs (li L) = li L
  | [] => rfl | x :: L => congrArg (D.int x :: ·) (li_bb L)
theorem li_taint : ∀ L : List Int, taints (li L) = li L
  | [] => rfl | x :: L => congrArg (D.int x :: ·) (li_taint L)
theorem li_clean : ∀ L : List Int, cleans (li L) = true
  | [] => rfl | x :: L => li_clean L
theorem li_z : ∀ L : List Int, isZs (li L) = true
  | [] => rfl | x :: L => li_z L
theorem pr_zz : ∀ L : List (Int × Int), zzs (pr L) = pr L
  | [] => rfl | x :: L => congrArg (D.tup [.int x.1, .int x.2] :: ·) (pr_zz L)
theorem pr_bb : ∀ L : List (Int × Int), bbs (pr L) = pr L
  | [] => rfl | x :: L => congrArg (D.tup [.int x.1, .int x.2] :: ·) (pr_bb L)
theorem pr_taint : ∀ L : List (Int × Int), taints (pr L) = pr L
  | [] => rfl | x :: L => congrArg (D.tup [.int x.1, .int x.2] :: ·) (pr_taint L)
theorem pr_clean : ∀ L : List (Int × Int), cleans (pr L) = true
  | [] => rfl | x :: L => pr_clean L
theorem pr_z : ∀ L : List (Int × Int), isZs (pr L) = true
  | [] => rfl | x :: L => pr_z L
theorem ll_zz (f : Fl) : ∀ L : List (List Int), zzs (ll f L) = ll .z L
  | [] => rfl | x :: L => by
    show D.lst .z (zzs (li x)) :: zzs (ll f L) = _
    rw [li_zz, ll_zz f L]; rfl
theorem ll_bb (f : Fl) : ∀ L : List (List Int), bbs (ll f L) = ll f.bb L
  | [] => rfl | x :: L => by
    show D.lst f.bb (bbs (li x)) :: bbs (ll f L) = _
    rw [li_bb, ll_bb f L]; rfl
theorem ll_taint (f : Fl) : ∀ L : List (List Int), taints (ll f L) = ll f.tt L
  | [] => rfl | x :: L => by
    show D.lst f.tt (taints (li x)) :: taints (ll f L) = _
    rw [li_taint, ll_taint f L]; rfl
theorem ll_cleanO : ∀ L : List (List Int), cleans (ll .o L) = true
  | [] => rfl | x :: L => by
    show ((true && cleans (li x)) && cleans (ll .o L)) = true
    rw [li_clean, ll_cleanO L]; rfl
theorem ll_cleanZ : ∀ L : List (List Int), cleans (ll .z L) = true
  | [] => rfl | x :: L => by
    show ((true && cleans (li x)) && cleans (ll .z L)) = true
    rw [li_clean, ll_cleanZ L]; rfl
theorem ll_z : ∀ L : List (List Int), isZs (ll .z L) = true
  | [] => rfl | x :: L => by
    show ((true && isZs (li x)) && isZs (ll .z L)) = true
    rw [li_z, ll_z L]; rfl
theorem li_get {L : List Int} {i : Nat} : (li L)[i]? = (L[i]?).map .int := List.getElem?_map ..
theorem pr_get {L : List (Int × Int)} {i : Nat} : (pr L)[i]? = (L[i]?).map fun t => .tup [.int t.1, .int t.2] := List.getElem?_map ..
theorem ll_get {f : Fl} {L : List (List Int)} {i : Nat} : (ll f L)[i]? = (L[i]?).map fun g => .lst f (li g) := List.getElem?_map ..
/-! ### comparisons -/
theorem toPs_li : ∀ L : List Int, toPs (li L) = some (L.map .int)
  | [] => rfl | x :: L => by
    show (match toP (.int x), toPs (li L) with | some p, some ps => some (p :: ps) | _, _ => none) = _
    rw [toPs_li L]; rfl
theorem toPs_pr : ∀ L : List (Int × Int), toPs (pr L) = some (L.map fun t => .tuple [.int t.1, .int t.2])
  | [] => rfl | x :: L => by
    show (match toP (.tup [.int x.1, .int x.2]), toPs (pr L) with | some p, some ps => some (p :: ps) | _, _ => none) = _
    rw [toPs_pr L]; rfl
theorem toPs_ll (f : Fl) : ∀ L : List (List Int), toPs (ll f L) = some (L.map fun g => .list (g.map .int))
  | [] => rfl | x :: L => by
    show (match (toPs (li x)).map PyData.list, toPs (ll f L) with | some p, some ps => some (p :: ps) | _, _ => none) = _
    rw [toPs_ll f L, toPs_li]; rfl
theorem toPs_bs : ∀ L : List Bool, toPs (L.map .bl) = some (L.map .bool)
  | [] => rfl | x :: L => by
    show (match toP (.bl x), toPs (L.map .bl) with | some p, some ps => some (p :: ps) | _, _ => none) = _
    rw [toPs_bs L]; rfl
theorem lay_all {α : Type} (f : α → PyData) (h : ∀ x, (f x).canLay0 = true) : ∀ L : List α, PyData.canLayAll0 (L.map f) = true
  | [] => rfl | x :: L => by
    show (PyData.canLay0 (f x) && PyData.canLayAll0 (L.map f)) = true
    rw [h x, lay_all f h L]; rfl
theorem dep_all {α : Type} (f : α → PyData) (n : Nat) (h : ∀ x, (f x).depth ≤ n) : ∀ L : List α, PyData.depthAll (L.map f) ≤ n
  | [] => by simp [PyData.depthAll]
  | x :: L => by
    have := dep_all f n h L
    have := h x
    simp only [List.map_cons, PyData.depthAll]; omega
theorem shaped_l {α : Type} (f : α → PyData) (h : ∀ x, (f x).canLay0 = true) (n : Nat) (hn : n ≤ 63) (h2 : ∀ x, (f x).depth ≤ n) (L : List α) : SeqAt.shaped (.list (L.map f)) = true := by
  have h3 := dep_all f n h2 L
  refine Bool.and_eq_true_iff.mpr ⟨?_, decide_eq_true ?_⟩
  · simp only [PyData.canLay0, lay_all f h L]
  · simp only [PyData.depth]; omega
theorem sh_int (x : Int) : SeqAt.shaped (.int x) = true := by simp [SeqAt.shaped, PyData.canLay0, PyData.depth]
theorem sh_li (L : List Int) : SeqAt.shaped (.list (L.map .int)) = true := shaped_l _ (fun x => by simp [PyData.canLay0]) 1 (by decide) (fun x => by simp [PyData.depth]) L
theorem sh_bs (L : List Bool) : SeqAt.shaped (.list (L.map .bool)) = true := shaped_l _ (fun x => by simp [PyData.canLay0]) 1 (by decide) (fun x => by simp [PyData.depth]) L
theorem sh_pr (L : List (Int × Int)) : SeqAt.shaped (.list (L.map fun t => .tuple [.int t.1, .int t.2])) = true := shaped_l _ (fun x => by simp [PyData.canLay0, PyData.canLayAll0]) 4 (by decide) (fun x => by simp [PyData.depth, PyData.depthAll]) L
theorem sh_ll (L : List (List Int)) : SeqAt.shaped (.list (L.map fun g => .list (g.map .int))) = true := shaped_l _ (fun x => by
    simp only [PyData.canLay0]; exact lay_all _ (fun x => by simp [PyData.canLay0]) x) 4 (by decide) (fun x => by
    have := dep_all PyData.int 1 (fun x => by simp [PyData.depth]) x
    simp only [PyData.depth]; omega) L
theorem self_eq {p : PyData} (h : SeqAt.shaped p = true) : PyData.eqv p p = true := SeqAt.eqv_refl p (SeqAt.canLay_of_shaped h)
theorem dIn_li {x : Int} {f : Fl} {L : List Int} : dIn (.int x) (.lst f (li L)) = some (decide (x ∈ L)) := by
  show (match toP (.int x), toPs (li L) with
    | some p, some ps => if SeqAt.shaped p && SeqAt.shaped (.list ps) then some (ps.any fun z => PyData.eqv z p) else none
    | _, _ => none) = _
  rw [toPs_li]
  show (if SeqAt.shaped (.int x) && SeqAt.shaped (.list (L.map .int)) then some ((L.map PyData.int).any fun z => PyData.eqv z (.int x)) else none) = _
  rw [sh_int, sh_li]
  simp only [Bool.and_self, if_true, Option.some.injEq]
  rw [Bool.eq_iff_iff, List.any_eq_true, decide_eq_true_eq]
  constructor
  · rintro ⟨z, hz, e⟩
    obtain ⟨y, hy, rfl⟩ := List.mem_map.mp hz
    simp only [PyData.eqv, beq_iff_eq] at e
    exact e ▸ hy
  · intro h
    exact ⟨_, List.mem_map_of_mem h, by simp [PyData.eqv]⟩
theorem dEq_li {f g : Fl} {L : List Int} : dEq (.lst f (li L)) (.lst g (li L)) = some true := by
  simp only [dEq, toP, toPs_li, Option.map_some, sh_li, Bool.and_self, if_true, self_eq (sh_li L)]
theorem dEq_pr {f g : Fl} {L : List (Int × Int)} : dEq (.lst f (pr L)) (.lst g (pr L)) = some true := by
  simp only [dEq, toP, toPs_pr, Option.map_some, sh_pr, Bool.and_self, if_true, self_eq (sh_pr L)]
theorem dEq_ll {f g f' g' : Fl} {L : List (List Int)} : dEq (.lst f (ll f' L)) (.lst g (ll g' L)) = some true := by
  simp only [dEq, toP, toPs_ll, Option.map_some, sh_ll, Bool.and_self, if_true, self_eq (sh_ll L)]
theorem dEq_bs {f g : Fl} {L : List Bool} : dEq (.lst f (L.map .bl)) (.lst g (L.map .bl)) = some true := by
  simp only [dEq, toP, toPs_bs, Option.map_some, sh_bs, Bool.and_self, if_true, self_eq (sh_bs L)]
theorem dEq_int {x y : Int} : dEq (.int x) (.int y) = some (decide (x = y)) := by
  simp only [dEq, toP, sh_int, Bool.and_self, if_true, PyData.eqv]
  rw [Option.some.injEq, Bool.eq_iff_iff]; simp
/-! ### single steps -/
theorem intsOf_li : ∀ L : List Int, intsOf (li L) = some L
  | [] => rfl | x :: L => by
    show (intsOf (li L)).map (x :: ·) = _
    rw [intsOf_li L]; rfl
theorem kintsOf_inl : ∀ L : List Int, kintsOf (L.map .inl) = some L
  | [] => rfl | x :: L => by
    show (kintsOf (L.map .inl)).map (x :: ·) = _
    rw [kintsOf_inl L]; rfl

theorem g_0 {d : D} {env : Env} : EV.get (some d :: env) 0 = .ok d := rfl
theorem g_s {x : Option D} {n : Nat} {env : Env} : EV.get (x :: env) (n + 1) = EV.get env n := rfl
theorem s_0 {x : Option D} {d : D} {env : Env} : setTg (.name 0) d (x :: env) = .ok (some d :: env) := rfl
theorem s_s {x : Option D} {n : Nat} {d : D} {env : Env} : setTg (.name (n + 1)) d (x :: env) = (setTg (.name n) d env).bind fun e => .ok (x :: e) := by
  unfold setTg
  by_cases h : n < env.length <;> simp [h, R.bind]
theorem s_t2 {i j : Nat} {x y : D} {env : Env} : setTg (.tup [i, j]) (.tup [x, y]) env = (setTg (.name i) x env).bind fun e => setTg (.name j) y e := by
  show setAll [i, j] [x, y] env = (if decide (i < env.length) = true then R.ok (env.set i (some x)) else R.st).bind fun e => if decide (j < e.length) = true then R.ok (e.set j (some y)) else R.st
  simp only [decide_eq_true_eq]
  unfold setAll
  by_cases h : i < env.length
  · rw [if_pos h, if_pos h, ok_bind]
    unfold setAll setAll
    rfl
  · rw [if_neg h, if_neg h]; rfl
theorem rof_if {α : Type} {p : Prop} [Decidable p] {x : α} : R.of (if p then some x else none) = if p then R.ok x else R.st := by
  by_cases h : p <;> simp [h, R.of]
theorem wp_st {α : Type} {Q : α → Prop} : Wp (R.st) Q ↔ False := ⟨fun ⟨_, e, _⟩ => (nomatch e), False.elim⟩
theorem b_add {i j : Int} : dBin .add (.int i) (.int j) = some (.int (i + j)) := rfl
theorem b_sub {i j : Int} : dBin .sub (.int i) (.int j) = some (.int (i - j)) := rfl
theorem b_mul {i j : Int} : dBin .mul (.int i) (.int j) = if mulOk i j = true then some (.int (i * j)) else none := rfl
theorem b_div {i j : Int} : dBin .fdiv (.int i) (.int j) = if divOk j = true then some (.int (i / j)) else none := rfl
theorem b_mod {i j : Int} : dBin .mod (.int i) (.int j) = if 0 < j then some (.int (i % j)) else none := by
  unfold dBin
  by_cases h : 0 < j <;> simp [h]
theorem b_pow {i j : Int} : dBin .pow (.int i) (.int j) = if powOk i j = true then some (.int (i ^ j.toNat)) else none := rfl
theorem mulOk_r {i j : Int} (h1 : -(2 ^ 64) < j) (h2 : j < 2 ^ 64) : mulOk i j = true := decide_eq_true (.inr ⟨h1, h2⟩)
theorem mulOk_l {i j : Int} (h1 : -(2 ^ 64) < i) (h2 : i < 2 ^ 64) : mulOk i j = true := decide_eq_true (.inl ⟨h1, h2⟩)
theorem divOk_of {j : Int} (h1 : 0 < j) (h2 : j < 1073741824) : divOk j = true := decide_eq_true ⟨h1, h2⟩
theorem c_lt {i j : Int} : dCmp .lt (.int i) (.int j) = some (.bl (decide (i < j))) := rfl
theorem c_le {i j : Int} : dCmp .le (.int i) (.int j) = some (.bl (decide (i ≤ j))) := rfl
theorem c_gt {i j : Int} : dCmp .gt (.int i) (.int j) = some (.bl (decide (j < i))) := rfl
theorem c_ge {i j : Int} : dCmp .ge (.int i) (.int j) = some (.bl (decide (j ≤ i))) := rfl
theorem c_eq {a b : D} : dCmp .eq a b = (dEq a b).map fun r => .bl r := rfl
theorem c_ne {a b : D} : dCmp .ne a b = (dEq a b).map fun r => .bl (!r) := rfl
theorem c_in {a b : D} : dCmp .isin a b = (dIn a b).map fun r => .bl r := rfl
theorem c_ni {a b : D} : dCmp .notin a b = (dIn a b).map fun r => .bl (!r) := rfl
theorem dIn_dic {x : Int} {f : Fl} {ks : List Key} {ds : List D} : dIn (.int x) (.dic f ks ds) = some (lookK ks ds (.inl x)).isSome := rfl
theorem x_lst {f : Fl} {ds : List D} {i : Int} : dIx (.lst f ds) (.int i) = atI ds i := rfl
theorem x_scr {ns : List Int} {i : Int} : dIx (.scr ns) (.int i) = (atI ns i).map .int := rfl
theorem x_dic {f : Fl} {ks : List Key} {ds : List D} {i : Int} : dIx (.dic f ks ds) (.int i) = lookK ks ds (.inl i) := rfl
theorem l_lst {f : Fl} {ds : List D} : dB .len (.lst f ds) = some (.int ds.length) := rfl
theorem l_scr {ns : List Int} : dB .len (.scr ns) = some (.int ns.length) := rfl
theorem l_abs {i : Int} : dB .abs (.int i) = some (.int (if i < 0 then -i else i)) := rfl
theorem l_int {i : Int} : dB .int (.int i) = some (.int i) := rfl
theorem l_list {f : Fl} {ds : List D} : dB .list (.lst f ds) = some (.lst .o ds) := rfl
theorem l_tup {f : Fl} {ds : List D} : dB .tuple (.lst f ds) = if cleans ds = true then some (.tup (zzs ds)) else none := rfl
theorem l_sorted {f : Fl} {L : List Int} : dB .sorted (.lst f (li L)) = some (.lst .o (li (sortI L))) := by
  unfold dB
  simp only [intsOf_li]; rfl
theorem l_sortedk {f : Fl} {L : List Int} {ds : List D} : dB .sorted (.dic f (L.map .inl) ds) = if L.length < 64 then some (.lst .o (li (sortI L))) else none := by
  unfold dB
  simp only [kintsOf_inl]; rfl
theorem i_int {i : Int} : dInt? (.int i) = some i := rfl
theorem q_lst {lv : Bool} {L : List Int} {f : Fl} (h : f ≠ .b) : seqOf lv (.lst f (li L)) = some (li L) := by
  cases f with
  | b => exact absurd rfl h
  | _ => cases lv <;> simp [seqOf, li_clean, li_zz]
theorem q_b {L : List Int} : seqOf true (.lst .b (li L)) = some (li L) := rfl
theorem q_bp {L : List (Int × Int)} : seqOf true (.lst .b (pr L)) = some (pr L) := rfl
theorem q_lstp {lv : Bool} {L : List (Int × Int)} {f : Fl} (h : f ≠ .b) : seqOf lv (.lst f (pr L)) = some (pr L) := by
  cases f with
  | b => exact absurd rfl h
  | _ => cases lv <;> simp [seqOf, pr_clean, pr_zz]
theorem q_tup {lv : Bool} {L : List Int} : seqOf lv (.tup (li L)) = some (li L) := by
  cases lv <;> simp [seqOf, li_z]
theorem q_tupp {lv : Bool} {L : List (Int × Int)} : seqOf lv (.tup (pr L)) = some (pr L) := by
  cases lv <;> simp [seqOf, pr_z]
theorem a_app {ds : List D} {x : D} : appO (.lst .o ds) x = if ds.length < sizeLine then some (.lst .o (ds ++ [x])) else none := rfl
theorem a_put {ks : List Key} {ds : List D} {k : Int} {x : D} : storeO (.dic .o ks ds) (.int k) x = if ks.length < sizeLine then some (.dic .o (putKs ks (.inl k)) (putDs ks ds (.inl k) x)) else none := rfl
theorem t_0 {d e : D} {env : Env} {f : D → Option D} : atO (some d :: env) 0 [] f = (R.of (f d)).bind fun e => .ok (some e :: env) := rfl
theorem t_s {x : Option D} {env : Env} {i : Nat} {ks : List D} {f : D → Option D} : atO (x :: env) (i + 1) ks f = (atO env i ks f).bind fun e => .ok (x :: e) := by
  unfold atO
  rw [g_s]
  cases EV.get env i with
  | ok d =>
    simp only [ok_bind]
    cases R.of ((getO d ks).bind f) <;> rfl
  | ex x => rfl
  | st => rfl
theorem lenOk_of {n : Nat} (h : n ≤ 16777216) : lenOk n = true := decide_eq_true h
theorem if_okp {p : Prop} [Decidable p] {c : Bool} : (if p then R.ok c else R.ok false) = R.ok (decide p && c) := by by_cases h : p <;> simp [h]
theorem if_oko {p : Prop} [Decidable p] {c : Bool} : (if p then R.ok true else R.ok c) = R.ok (decide p || c) := by by_cases h : p <;> simp [h]
theorem noEx_j {α : Type} {a : α} : noEx (R.ok a) = .ok a := rfl
theorem tru_bl {b : Bool} : dTru (.bl b) = some b := rfl
mutual
theorem zz_id : ∀ d : D, isZ d = true → zz d = d
  | .non, _ => rfl | .bl _, _ => rfl | .int _, _ => rfl | .str _, _ => rfl | .scr _, _ => rfl | .xcp, _ => rfl
  | .tup ds, h => congrArg D.tup (zzs_id ds (by simpa [isZ] using h))
  | .lst f ds, h => by
    simp only [isZ, Bool.and_eq_true, decide_eq_true_eq] at h
    obtain ⟨rfl, h⟩ := h
    exact congrArg (D.lst .z) (zzs_id ds h)
  | .dic f ks ds, h => by
    simp only [isZ, Bool.and_eq_true, decide_eq_true_eq] at h
    obtain ⟨rfl, h⟩ := h
    exact congrArg (D.dic .z ks) (zzs_id ds h)
  | .dit f ks ds, h => by
    simp only [isZ, Bool.and_eq_true, decide_eq_true_eq] at h
    obtain ⟨rfl, h⟩ := h
    exact congrArg (D.dit .z ks) (zzs_id ds h)
  | .obj f c ks ds, h => by
    simp only [isZ, Bool.and_eq_true, decide_eq_true_eq] at h
    obtain ⟨rfl, h⟩ := h
    exact congrArg (D.obj .z c ks) (zzs_id ds h)
theorem zzs_id : ∀ ds : List D, isZs ds = true → zzs ds = ds
  | [], _ => rfl
  | d :: ds, h => by
    simp only [isZs, Bool.and_eq_true] at h
    show zz d :: zzs ds = d :: ds
    rw [zz_id d h.1, zzs_id ds h.2]
end
mutual
theorem bb_id : ∀ d : D, isZ d = true → bb d = d
  | .non, _ => rfl | .bl _, _ => rfl | .int _, _ => rfl | .str _, _ => rfl | .scr _, _ => rfl | .xcp, _ => rfl
  | .tup ds, h => congrArg D.tup (bbs_id ds (by simpa [isZ] using h))
  | .lst f ds, h => by
    simp only [isZ, Bool.and_eq_true, decide_eq_true_eq] at h
    obtain ⟨rfl, h⟩ := h
    exact congrArg (D.lst .z) (bbs_id ds h)
  | .dic f ks ds, h => by
    simp only [isZ, Bool.and_eq_true, decide_eq_true_eq] at h
    obtain ⟨rfl, h⟩ := h
    exact congrArg (D.dic .z ks) (bbs_id ds h)
  | .dit f ks ds, h => by
    simp only [isZ, Bool.and_eq_true, decide_eq_true_eq] at h
    obtain ⟨rfl, h⟩ := h
    exact congrArg (D.dit .z ks) (bbs_id ds h)
  | .obj f c ks ds, h => by
    simp only [isZ, Bool.and_eq_true, decide_eq_true_eq] at h
    obtain ⟨rfl, h⟩ := h
    exact congrArg (D.obj .z c ks) (bbs_id ds h)
theorem bbs_id : ∀ ds : List D, isZs ds = true → bbs ds = ds
  | [], _ => rfl
  | d :: ds, h => by
    simp only [isZs, Bool.and_eq_true] at h
    show bb d :: bbs ds = d :: ds
    rw [bb_id d h.1, bbs_id ds h.2]
end
theorem callD_z {f : FD} {ds : List D} (hl : ds.length = f.n) (hz : cleans ds = true) : callD f ds = f.sem (zzs ds) := by simp [callD, hl, hz]
theorem callD_b {f : FD} {ds : List D} (hl : ds.length = f.n) (hz : cleans ds = false) : callD f ds = (f.sem (zzs ds)).bind fun d => .ok (backD ds d) := by simp [callD, hl, hz]
/-- a call by what it gives to shared things -/
theorem callD_v {f : FD} {ds : List D} {v : D} (hl : ds.length = f.n) (h : f.sem (zzs ds) = .ok v) (hv : cleans ds = true ∨ backD ds v = v) : callD f ds = .ok v := by
  cases c : cleans ds with
  | true => rw [callD_z hl c, h]
  | false =>
    rw [callD_b hl c, h, ok_bind, hv.resolve_left (by rw [c]; exact Bool.false_ne_true)]
theorem makeD_v {f : FD} {ds : List D} {v : D} (hl : ds.length + 1 = f.n) (h : f.sem (zzs ds) = .ok v) (hv : cleans ds = true ∨ backD ds v = v) : makeD f ds = .ok v := by
  cases c : cleans ds with
  | true => simp [makeD, hl, c, h]
  | false => simp [makeD, hl, c, h, ok_bind, hv.resolve_left (by rw [c]; exact Bool.false_ne_true)]
theorem makeD_x {f : FD} {ds : List D} {x : Exc} (hl : ds.length + 1 = f.n) (h : f.sem (zzs ds) = .ex x) : makeD f ds = .ex x := by
  cases c : cleans ds with
  | true => simp [makeD, hl, c, h]
  | false => simp [makeD, hl, c, h, R.bind]
theorem range_get {lo : Int} {n i : Nat} {d : D} (h : (rangeD lo n)[i]? = some d) : d = .int (lo + i) ∧ i < n := by
  unfold rangeD at h
  rw [List.getElem?_map] at h
  by_cases h2 : i < n
  · rw [List.getElem?_range h2] at h
    cases h; exact ⟨rfl, h2⟩
  · rw [List.getElem?_eq_none (by simp; omega)] at h
    cases h
theorem range_len {lo : Int} {n : Nat} : (rangeD lo n).length = n := by simp [rangeD]
theorem atI_ok {α : Type} {xs : List α} {i : Int} (h0 : 0 ≤ i) (h1 : i < xs.length) : atI xs i = some (xs[i.toNat]'(by omega)) := by
  unfold atI ixN
  rw [if_pos h0, if_pos h1]
  exact List.getElem?_eq_getElem (by omega)
theorem atI_li {L : List Int} {i : Int} (h0 : 0 ≤ i) (h1 : i < L.length) : ∃ x, x ∈ L ∧ atI (li L) i = some (.int x) := by
  have h2 : i < ((li L).length : Int) := by rw [li_len]; exact h1
  refine ⟨L[i.toNat]'(by omega), List.getElem_mem _, ?_⟩
  rw [atI_ok h0 h2]
  simp [li]
theorem isi_list {f : Fl} {ds : List D} : dIsi "list" (.lst f ds) = some (.bl true) := by
  show (kitB "list" "list").map _ = _
  rw [show kitB "list" "list" = some true by decide +kernel]; rfl
theorem isi_int {i : Int} : dIsi "int" (.int i) = some (.bl true) := by
  show (kitB "int" "int").map _ = _
  rw [show kitB "int" "int" = some true by decide +kernel]; rfl
theorem isi_bool {i : Int} : dIsi "bool" (.int i) = some (.bl false) := by
  show (kitB "int" "bool").map _ = _
  rw [show kitB "int" "bool" = some false by decide +kernel]; rfl
theorem q_ll {lv : Bool} {G : List (List Int)} : seqOf lv (.lst .z (ll .z G)) = some (ll .z G) := by cases lv <;> simp [seqOf, ll_cleanZ, ll_zz]
theorem q_llb {f : Fl} {G : List (List Int)} : seqOf true (.lst .b (ll f G)) = some (ll f G) := rfl
theorem rng_of {i : Int} (h1 : -(2 ^ 62) ≤ i) (h2 : i < 2 ^ 62) : rngOk i = true := rngOk_iff.mpr ⟨h1, h2⟩
theorem it_r1 {Φ : Tab} {lv : Bool} {env : Env} {c : C} {n : Nat} (h : evE Φ c env = .ok (.int n)) (hn : n ≤ 1000000) : evIt Φ (.r1 c) lv env = .ok (rangeD 0 n) := by
  have hr : rngOk (n : Int) = true := rng_of (by omega) (by omega)
  rw [evIt, h, ok_bind, i_int, EV.R.of_some, ok_bind, if_pos hr]
  rfl
/-! ### sorting -/
theorem sortIns_mem {x y : Int} : ∀ {L : List Int}, y ∈ sortIns x L ↔ y = x ∨ y ∈ L
  | [] => by simp [sortIns]
  | z :: L => by
    unfold sortIns
    split
    · simp
    · simp [sortIns_mem (L := L)]
      constructor
      · rintro (h | h | h) <;> simp [h]
      · rintro (h | h | h) <;> simp [h]
theorem sortI_mem {y : Int} : ∀ {L : List Int}, y ∈ sortI L ↔ y ∈ L
  | [] => by simp [sortI]
  | x :: L => by simp [sortI, sortIns_mem, sortI_mem (L := L)]
theorem sortIns_len {x : Int} : ∀ {L : List Int}, (sortIns x L).length = L.length + 1
  | [] => rfl
  | z :: L => by
    unfold sortIns
    split
    · rfl
    · simp [sortIns_len (L := L)]
theorem sortI_len : ∀ {L : List Int}, (sortI L).length = L.length
  | [] => rfl
  | x :: L => by simp [sortI, sortIns_len, sortI_len (L := L)]
theorem sortIns_lt {x : Int} : ∀ {L : List Int}, L.Pairwise (· < ·) → x ∉ L → (sortIns x L).Pairwise (· < ·)
  | [], _, _ => by simp [sortIns]
  | z :: L, h, hx => by
    unfold sortIns
    rw [List.pairwise_cons] at h
    split
    · rename_i hle
      have hz : x < z := by
        have : x ≠ z := fun e => hx (by simp [e])
        omega
      rw [List.pairwise_cons, List.pairwise_cons]
      refine ⟨fun y hy => ?_, h.1, h.2⟩
      rcases List.mem_cons.mp hy with rfl | hy
      · exact hz
      · have := h.1 y hy; omega
    · rename_i hle
      rw [List.pairwise_cons]
      refine ⟨fun y hy => ?_, sortIns_lt h.2 fun hm => hx (by simp [hm])⟩
      rcases sortIns_mem.mp hy with rfl | hy
      · omega
      · exact h.1 y hy
theorem sortI_lt : ∀ {L : List Int}, L.Nodup → (sortI L).Pairwise (· < ·)
  | [], _ => by simp [sortI]
  | x :: L, h => by
    rw [List.nodup_cons] at h
    exact sortIns_lt (sortI_lt h.2) fun hm => h.1 (sortI_mem.mp hm)
/-- a comprehension without a test -/
theorem comp_map {Φ : Tab} {it : EV.It} {tg : Tg} {own : List Nat} {c : To} {e : C} {env : Env} {α : Type} (xs : List α) (f g : α → D) (hi : evIt Φ it true env = .ok (xs.map f)) (hw : tg.within own = true)
    (ht : ∀ x ∈ xs, noEx ((setTg tg (f x) (wipeE env own)).bind fun env' => (evTo Φ c env').bind fun b => if b then (evE Φ e env').bind fun x => .ok (some x) else .ok none) = .ok (some (g x)))
    (hc : ∀ x ∈ xs, clean (g x) = true) (hl : xs.length ≤ sizeLine) : evE Φ (.comp it tg own c e) env = .ok (.lst .o (xs.map g)) := by
  rw [evE, hi, ok_bind, hw]
  simp only [Bool.not_true, Bool.false_eq_true, if_false]
  have key := compL_eq (turn := fun d => noEx ((setTg tg d (wipeE env own)).bind fun env' => (evTo Φ c env').bind fun b => if b then (evE Φ e env').bind fun x => .ok (some x) else .ok none)) (f := f) (g := fun x => some (g x)) xs []
    ht (fun x hx d h => by cases h; exact hc x hx) (by simpa using hl)
  rw [key, ok_bind]
  simp [List.filterMap_eq_map']
/-! ### a set of ints, sorted -/
def ddI : List Int → List Int → List Int
  | [], acc => acc
  | i :: is, acc => ddI is (if i ∈ acc then acc else i :: acc)
theorem mem_ddI : ∀ {L acc : List Int} {k : Int}, k ∈ ddI L acc ↔ k ∈ acc ∨ k ∈ L
  | [], acc, k => by simp [ddI]
  | i :: L, acc, k => by
    unfold ddI
    rw [mem_ddI]
    split
    · rename_i h
      constructor
      · rintro (z | z)
        · exact .inl z
        · exact .inr (List.mem_cons_of_mem _ z)
      · rintro (z | z)
        · exact .inl z
        · rcases List.mem_cons.mp z with rfl | z
          · exact .inl h
          · exact .inr z
    · rw [List.mem_cons, List.mem_cons]
      constructor
      · rintro ((z | z) | z)
        · exact .inr (.inl z)
        · exact .inl z
        · exact .inr (.inr z)
      · rintro (z | z | z)
        · exact .inl (.inr z)
        · exact .inl (.inl z)
        · exact .inr z
theorem nodup_ddI : ∀ {L acc : List Int}, acc.Nodup → (ddI L acc).Nodup
  | [], acc, h => h
  | i :: L, acc, h => by
    unfold ddI
    refine nodup_ddI ?_
    split
    · exact h
    · rename_i z; exact List.nodup_cons.mpr ⟨z, h⟩
theorem short60 {L : List Int} (h : L.Nodup) (b : ∀ k ∈ L, 0 ≤ k ∧ k < 60) : L.length < 63 := by
  have s : L ⊆ (List.range 60).map Int.ofNat := fun k hk => by
    obtain ⟨h0, h1⟩ := b k hk
    exact List.mem_map.mpr ⟨k.toNat, List.mem_range.mpr (by omega), by simp; omega⟩
  have := h.length_le_of_subset s
  simp at this
  omega
theorem ssetL_eq {turn : D → R Int} {α : Type} (f : α → D) (g : α → Int) : ∀ (xs : List α) (acc : List Int), (∀ x ∈ xs, turn (f x) = .ok (g x)) → (∀ x ∈ xs, 0 ≤ g x ∧ g x < 60) → acc.Nodup → (∀ k ∈ acc, 0 ≤ k ∧ k < 60) →
    ssetL turn (xs.map f) acc = .ok (ddI (xs.map g) acc)
  | [], acc, _, _, _, _ => rfl
  | x :: xs, acc, h, b, nd, ba => by
    rw [List.map_cons, List.map_cons, ssetL, h x (by simp), ok_bind, if_pos (short60 nd ba), ddI]
    refine ssetL_eq f g xs _ (fun y hy => h y (by simp [hy])) (fun y hy => b y (by simp [hy])) ?_ ?_
    · split
      · exact nd
      · rename_i z; exact List.nodup_cons.mpr ⟨z, nd⟩
    · intro k hk
      split at hk
      · exact ba k hk
      · rcases List.mem_cons.mp hk with rfl | hk
        · exact b x (by simp)
        · exact ba k hk
/-- sorted({e for t in it}) -/
theorem sset_eq {Φ : Tab} {it : EV.It} {tg : Tg} {own : List Nat} {e : C} {env : Env} {α : Type} (xs : List α) (f : α → D) (g : α → Int) (hi : evIt Φ it true env = .ok (xs.map f)) (hw : tg.within own = true)
    (ht : ∀ x ∈ xs, noEx ((setTg tg (f x) (wipeE env own)).bind fun env' => (evE Φ e env').bind fun x => R.of (dInt? x)) = .ok (g x)) (hb : ∀ x ∈ xs, 0 ≤ g x ∧ g x < 60) :
    evE Φ (.sset it tg own e) env = .ok (.lst .o (li (sortI (ddI (xs.map g) [])))) := by
  rw [evE, hi, ok_bind, hw]
  simp only [Bool.not_true, Bool.false_eq_true, if_false]
  have key := ssetL_eq (turn := fun d => noEx ((setTg tg d (wipeE env own)).bind fun env' => (evE Φ e env').bind fun x => R.of (dInt? x))) f g xs [] ht hb List.nodup_nil (by simp)
  rw [key, ok_bind]
  rfl
end EV
namespace K08
open PySem PySem.Spec PyProof.Rows L2 EV
abbrev R : PySem.W.OpenRow := PySem.W.OpenLaw.row PySem.Challenge.rw_comesapart_k08_followers_turn_at_their_p
def top (i : Nat) : Stmt := (PySem.Challenge.rw_comesapart_k08_followers_turn_at_their_p.prog.main.body).getD i (.Pass default)
def cst (i j : Nat) : Stmt := match top i with
  | .ClassDef _ _ _ body _ _ _ _ _ _ _ => body.getD j (.Pass default)
  | _ => .Pass default
/-! skeletons of the defs, by program -/
def dr0 : DR := { name := "_law_draws", kd := .fn false, ps := ["_law_cell_here", "_law_many"], N := ["_law_cell_here", "_law_many", "_law_rest", "_law_exact", "_law_mixed", "_law_draws_here", "_law_k"], body :=
  (.cons (.asg (.name 2) (.blt .abs (.blt .int (.slot 0)))) (.cons (.asg (.name 3) (.cmp .ge (.slot 2) (.bin .pow (.int 10) (.int 18)))) (.cons (.asg (.name 4) (.bin .add (.bin .mod (.blt .int (.slot 2)) (.int 2147483629)) (.int 17))) (.cons (.frz 4) (.cons (.asg (.name 5) (.lst .nil)) (.cons (.fr (.r1 (.slot 1)) (.name 6) (.cons (.asg (.name 4) (.bin .mod (.blt .int (.bin .add (.bin .add (.bin .mul (.slot 4) (.int 48271)) (.bin .mul (.int 9973) (.slot 6))) (.int 11))) (.int 2147483647))) (.cons (.ife (.and (.cons (.v (.slot 3)) (.cons (.b (.cmp .gt (.slot 2) (.int 0))) .nil))) (.cons (.app 5 .nil (.bin .mod (.blt .int (.slot 2)) (.int 60))) (.cons (.asg (.name 2) (.bin .fdiv (.slot 2) (.int 60))) .nil)) (.cons (.app 5 .nil (.bin .mod (.bin .fdiv (.slot 4) (.int 13)) (.int 60))) .nil)) .nil))) (.cons (.frz 4) (.cons (.retmv 5) .nil)))))))) }
def dr1 : DR := { name := "_law_cell", kd := .fn false, ps := ["_law_script", "_law_k"], N := ["_law_script", "_law_k"], body :=
  (.cons (.ife (.b (.cmp .lt (.slot 1) (.blt .len (.slot 0)))) (.cons (.ret (.ix (.slot 0) (.slot 1))) .nil) .nil) (.cons (.ret (.int 0)) .nil)) }
def dr2 : DR := { name := "_law_pick", kd := .fn false, ps := ["_law_draws_here", "_law_k", "_law_many"], N := ["_law_draws_here", "_law_k", "_law_many"], body :=
  (.cons (.ife (.or (.cons (.b (.cmp .lt (.slot 2) (.int 2))) (.cons (.b (.cmp .eq (.blt .len (.slot 0)) (.int 0))) .nil))) (.cons (.ret (.int 0)) .nil) .nil) (.cons (.ret (.bin .mod (.blt .int (.ix (.slot 0) (.bin .mod (.blt .int (.slot 1)) (.blt .len (.slot 0))))) (.slot 2))) .nil)) }
def dr3 : DR := { name := "_law_web", kd := .fn false, ps := ["_law_draws_here", "_law_most_places", "_law_most_ties"], N := ["_law_draws_here", "_law_most_places", "_law_most_ties", "_law_menu", "_law_many", "_law_sides", "_law_ties", "_law_k", "_law_at", "_law_one", "_law_other", "_law_side"], body :=
  (.cons (.asg (.name 3) (.lst (.cons (.int 2) (.cons (.int 2) (.cons (.int 3) (.cons (.int 2) (.cons (.int 1) (.cons (.int 4) .nil)))))))) (.cons (.frz 3) (.cons (.asg (.name 4) (.call 2 (.cons (.slot 0) (.cons (.int 0) (.cons (.bin .add (.slot 1) (.int 1)) .nil))))) (.cons (.frz 4) (.cons (.asg (.name 5) (.comp (.r1 (.slot 4)) (.name 7) [7] .none (.ix (.slot 3) (.call 2 (.cons (.slot 0) (.cons (.bin .add (.int 2) (.slot 7)) (.cons (.int 6) .nil))))))) (.cons (.frz 5) (.cons (.asg (.name 6) (.lst .nil)) (.cons (.fr (.r1 (.call 2 (.cons (.slot 0) (.cons (.int 1) (.cons (.bin .add (.slot 2) (.int 1)) .nil))))) (.name 7) (.cons (.ife (.b (.cmp .gt (.slot 4) (.int 0))) (.cons (.asg (.name 8) (.bin .add (.bin .add (.int 2) (.slot 4)) (.bin .mul (.int 4) (.slot 7)))) (.cons (.asg (.name 9) (.call 2 (.cons (.slot 0) (.cons (.slot 8) (.cons (.slot 4) .nil))))) (.cons (.asg (.name 10) (.call 2 (.cons (.slot 0) (.cons (.bin .add (.slot 8) (.int 2)) (.cons (.slot 4) .nil))))) (.cons (.asg (.name 11) (.call 2 (.cons (.slot 0) (.cons (.bin .add (.slot 8) (.int 1)) (.cons (.ix (.slot 5) (.slot 9)) .nil))))) (.cons (.frz 9) (.cons (.frz 11) (.cons (.frz 10) (.cons (.app 6 .nil (.tup (.cons (.slot 9) (.cons (.slot 11) (.cons (.slot 10) (.cons (.call 2 (.cons (.slot 0) (.cons (.bin .add (.slot 8) (.int 3)) (.cons (.ix (.slot 5) (.slot 10)) .nil)))) .nil)))))) .nil)))))))) .nil) .nil)) (.cons (.frz 6) (.cons (.frz 5) (.cons (.frz 6) (.cons (.ret (.tup (.cons (.slot 5) (.cons (.slot 6) .nil)))) .nil)))))))))))) }
def dr4 : DR := { name := "__init__", kd := .exc "TooLarge" [.lit "there are more than ", .par 1] [("limit", 1)], ps := ["self", "limit"], N := ["self", "limit", "__class__"], body :=
  .nil }
def dr5 : DR := { name := "check_limits", kd := .fn false, ps := ["sides", "ties"], N := ["sides", "ties"], body :=
  (.cons (.ife (.b (.cmp .gt (.blt .len (.slot 0)) (.ccon "Web" "MOST_PLACES" 200))) (.cons (.raise "TooLarge" 4 (.cons (.ccon "Web" "MOST_PLACES" 200) .nil)) .nil) .nil) (.cons (.ife (.b (.cmp .gt (.blt .len (.slot 1)) (.ccon "Web" "MOST_TIES" 300))) (.cons (.raise "TooLarge" 4 (.cons (.ccon "Web" "MOST_TIES" 300) .nil)) .nil) .nil) .nil)) }
def dr6 : DR := { name := "__init__", kd := .exc "BadSides" [.lit "place ", .par 1, .lit " has a wrong number of sides"] [("place", 1)], ps := ["self", "place"], N := ["self", "place", "__class__"], body :=
  .nil }
def dr7 : DR := { name := "check_sides", kd := .fn false, ps := ["place", "count"], N := ["place", "count"], body :=
  (.cons (.ife (.or (.cons (.b (.cmp .lt (.slot 1) (.int 1))) (.cons (.b (.cmp .gt (.slot 1) (.ccon "Web" "MOST_SIDES" 4))) .nil))) (.cons (.raise "BadSides" 6 (.cons (.slot 0) .nil)) .nil) .nil) .nil) }
def dr8 : DR := { name := "__init__", kd := .exc "UnknownPlace" [.lit "there is no place ", .par 1] [("place", 1)], ps := ["self", "place"], N := ["self", "place", "__class__"], body :=
  .nil }
def dr9 : DR := { name := "__init__", kd := .exc "UnknownSide" [.lit "place ", .par 1, .lit " has no side ", .par 2] [("place", 1), ("side", 2)], ps := ["self", "place", "side"], N := ["self", "place", "side", "__class__"], body :=
  .nil }
def dr10 : DR := { name := "check_end", kd := .fn false, ps := ["sides", "place", "side"], N := ["sides", "place", "side"], body :=
  (.cons (.ife (.b (.inR true (.slot 1) .none (.blt .len (.slot 0)))) (.cons (.raise "UnknownPlace" 8 (.cons (.slot 1) .nil)) .nil) .nil) (.cons (.ife (.b (.inR true (.slot 2) .none (.ix (.slot 0) (.slot 1)))) (.cons (.raise "UnknownSide" 9 (.cons (.slot 1) (.cons (.slot 2) .nil))) .nil) .nil) .nil)) }
def dr11 : DR := { name := "check_tie", kd := .fn false, ps := ["sides", "tie"], N := ["sides", "tie", "place", "side", "other", "far_side"], body :=
  (.cons (.asg (.tup [2, 3, 4, 5]) (.slot 1)) (.cons (.expr (.call 10 (.cons (.slot 0) (.cons (.slot 2) (.cons (.slot 3) .nil))))) (.cons (.expr (.call 10 (.cons (.slot 0) (.cons (.slot 4) (.cons (.slot 5) .nil))))) .nil))) }
def dr12 : DR := { name := "steps_by_place", kd := .fn false, ps := ["sides", "ties"], N := ["sides", "ties", "leaving", "tie", "ends", "_", "steps"], body :=
  (.cons (.asg (.name 2) (.comp (.seq (.slot 0)) (.name 5) [5] .none (.lst .nil))) (.cons (.fr (.enum (.slot 1)) (.tup [3, 4]) (.cons (.app 2 (.cons (.ix (.slot 4) (.int 0)) .nil) (.tup (.cons (.slot 3) (.cons (.int 0) .nil)))) (.cons (.app 2 (.cons (.ix (.slot 4) (.int 2)) .nil) (.tup (.cons (.slot 3) (.cons (.int 1) .nil)))) .nil))) (.cons (.frz 2) (.cons (.ret (.blt .tuple (.comp (.seq (.slot 2)) (.name 6) [6] .none (.blt .tuple (.slot 6))))) .nil)))) }
def dr13 : DR := { name := "__contains__", kd := .mt .p "Web", ps := ["self", "place"], N := ["self", "place"], body :=
  (.cons (.ret (.inR false (.slot 1) .none (.blt .len (.fld "Web" "sides" (.slot 0))))) .nil) }
def dr14 : DR := { name := "steps_from", kd := .mt .p "Web", ps := ["self", "place"], N := ["self", "place"], body :=
  (.cons (.ife (.b (.inO true "Web" 13 (.slot 1) (.slot 0))) (.cons (.raise "UnknownPlace" 8 (.cons (.slot 1) .nil)) .nil) .nil) (.cons (.ret (.blt .list (.ix (.fld "Web" "_leaving" (.slot 0)) (.slot 1)))) .nil)) }
def dr15 : DR := { name := "__init__", kd := .exc "UnknownTie" [.lit "there is no tie ", .par 1] [("tie", 1)], ps := ["self", "tie"], N := ["self", "tie", "__class__"], body :=
  .nil }
def dr16 : DR := { name := "tail", kd := .mt .p "Web", ps := ["self", "step"], N := ["self", "step", "tie", "direction", "place", "side", "other", "far_side"], body :=
  (.cons (.asg (.tup [2, 3]) (.slot 1)) (.cons (.ife (.b (.inR true (.slot 2) .none (.blt .len (.fld "Web" "ties" (.slot 0))))) (.cons (.raise "UnknownTie" 15 (.cons (.slot 2) .nil)) .nil) .nil) (.cons (.asg (.tup [4, 5, 6, 7]) (.ix (.fld "Web" "ties" (.slot 0)) (.slot 2))) (.cons (.ife (.b (.cmp .eq (.slot 3) (.int 0))) (.cons (.ret (.tup (.cons (.slot 4) (.cons (.slot 5) .nil)))) .nil) .nil) (.cons (.ret (.tup (.cons (.slot 6) (.cons (.slot 7) .nil)))) .nil))))) }
def dr17 : DR := { name := "used_sides", kd := .mt .p "Web", ps := ["self", "place"], N := ["self", "place", "step"], body :=
  (.cons (.ret (.sset (.seq (.meth "Web" "steps_from" 14 (.slot 0) (.cons (.slot 1) .nil))) (.name 2) [2] (.ix (.meth "Web" "tail" 16 (.slot 0) (.cons (.slot 2) .nil)) (.int 1)))) .nil) }
def dr18 : DR := { name := "__init__", kd := .ini "Web", ps := ["self", "sides", "ties"], N := ["self", "sides", "ties", "place", "count", "tie"], body :=
  (.cons (.sfld 0 "Web" "sides" (.blt .tuple (.slot 1))) (.cons (.sfld 0 "Web" "ties" (.blt .tuple (.comp (.seq (.slot 2)) (.name 5) [5] .none (.blt .tuple (.slot 5))))) (.cons (.expr (.call 5 (.cons (.fld "Web" "sides" (.slot 0)) (.cons (.fld "Web" "ties" (.slot 0)) .nil)))) (.cons (.fr (.enum (.fld "Web" "sides" (.slot 0))) (.tup [3, 4]) (.cons (.expr (.call 7 (.cons (.slot 3) (.cons (.slot 4) .nil)))) .nil)) (.cons (.fr (.seq (.fld "Web" "ties" (.slot 0))) (.name 5) (.cons (.expr (.call 11 (.cons (.fld "Web" "sides" (.slot 0)) (.cons (.slot 5) .nil)))) .nil)) (.cons (.sfld 0 "Web" "_leaving" (.call 12 (.cons (.fld "Web" "sides" (.slot 0)) (.cons (.fld "Web" "ties" (.slot 0)) .nil)))) (.cons (.sfld 0 "Web" "_joints" (.blt .tuple (.comp (.r1 (.blt .len (.fld "Web" "sides" (.slot 0)))) (.name 3) [3] (.some (.b (.cmp .gt (.blt .len (.meth "Web" "used_sides" 17 (.slot 0) (.cons (.slot 3) .nil))) (.int 1)))) (.slot 3)))) .nil))))))) }
def dr19 : DR := { name := "_law_tail", kd := .fn false, ps := ["_law_ties", "_law_step"], N := ["_law_ties", "_law_step", "_law_at"], body :=
  (.cons (.asg (.name 2) (.bin .mul (.int 2) (.ix (.slot 1) (.int 1)))) (.cons (.frz 2) (.cons (.ret (.tup (.cons (.ix (.ix (.slot 0) (.ix (.slot 1) (.int 0))) (.slot 2)) (.cons (.ix (.ix (.slot 0) (.ix (.slot 1) (.int 0))) (.bin .add (.slot 2) (.int 1))) .nil)))) .nil))) }
def dr20 : DR := { name := "_law_head", kd := .fn false, ps := ["_law_ties", "_law_step"], N := ["_law_ties", "_law_step"], body :=
  (.cons (.ret (.call 19 (.cons (.slot 0) (.cons (.tup (.cons (.ix (.slot 1) (.int 0)) (.cons (.bin .sub (.int 1) (.ix (.slot 1) (.int 1))) .nil))) .nil)))) .nil) }
def dr21 : DR := { name := "_law_followers", kd := .fn false, ps := ["_law_ties", "_law_step"], N := ["_law_ties", "_law_step", "_law_place", "_law_side", "_law_found", "_law_tie", "_law_direction", "_law_near", "_law_near_side"], body :=
  (.cons (.asg (.tup [2, 3]) (.call 20 (.cons (.slot 0) (.cons (.slot 1) .nil)))) (.cons (.asg (.name 4) (.lst .nil)) (.cons (.fr (.r1 (.blt .len (.slot 0))) (.name 5) (.cons (.fr (.r1 (.int 2)) (.name 6) (.cons (.asg (.tup [7, 8]) (.call 19 (.cons (.slot 0) (.cons (.tup (.cons (.slot 5) (.cons (.slot 6) .nil))) .nil)))) (.cons (.ife (.and (.cons (.b (.cmp .eq (.slot 7) (.slot 2))) (.cons (.b (.cmp .ne (.slot 8) (.slot 3))) .nil))) (.cons (.app 4 .nil (.tup (.cons (.slot 5) (.cons (.slot 6) .nil)))) .nil) .nil) .nil))) .nil)) (.cons (.retmv 4) .nil)))) }
def dr22 : DR := { name := "head", kd := .mt .p "Web", ps := ["self", "step"], N := ["self", "step", "tie", "direction"], body :=
  (.cons (.asg (.tup [2, 3]) (.slot 1)) (.cons (.ret (.meth "Web" "tail" 16 (.slot 0) (.cons (.tup (.cons (.slot 2) (.cons (.bin .sub (.int 1) (.slot 3)) .nil))) .nil))) .nil)) }
def dr23 : DR := { name := "followers", kd := .fn false, ps := ["web", "step"], N := ["web", "step", "place", "side", "after"], body :=
  (.cons (.asg (.tup [2, 3]) (.meth "Web" "head" 22 (.slot 0) (.cons (.slot 1) .nil))) (.cons (.ret (.comp (.seq (.meth "Web" "steps_from" 14 (.slot 0) (.cons (.slot 2) .nil))) (.name 4) [4] (.some (.b (.cmp .ne (.ix (.meth "Web" "tail" 16 (.slot 0) (.cons (.slot 4) .nil)) (.int 1)) (.slot 3)))) (.slot 4))) .nil)) }
def dr24 : DR := { name := "_law_is_number", kd := .fn false, ps := ["_law_told"], N := ["_law_told"], body :=
  (.cons (.ret (.and (.cons (.isi "int" (.slot 0)) (.cons (.not (.isi "bool" (.slot 0))) .nil)))) .nil) }
def dr25 : DR := { name := "_law_steps", kd := .fn false, ps := ["_law_told", "_law_due"], N := ["_law_told", "_law_due", "_law_k"], body :=
  (.cons (.ife (.or (.cons (.not (.v (.isi "list" (.slot 0)))) (.cons (.b (.cmp .ne (.blt .len (.slot 0)) (.blt .len (.slot 1)))) .nil))) (.cons (.ret (.bl false)) .nil) .nil) (.cons (.fr (.r1 (.blt .len (.slot 1))) (.name 2) (.cons (.ife (.or (.cons (.not (.v (.isi "tuple" (.ix (.slot 0) (.slot 2))))) (.cons (.b (.cmp .ne (.blt .len (.ix (.slot 0) (.slot 2))) (.int 2))) .nil))) (.cons (.ret (.bl false)) .nil) .nil) (.cons (.ife (.or (.cons (.not (.v (.call 24 (.cons (.ix (.ix (.slot 0) (.slot 2)) (.int 0)) .nil)))) (.cons (.not (.v (.call 24 (.cons (.ix (.ix (.slot 0) (.slot 2)) (.int 1)) .nil)))) (.cons (.b (.cmp .ne (.ix (.slot 0) (.slot 2)) (.ix (.slot 1) (.slot 2)))) .nil)))) (.cons (.ret (.bl false)) .nil) .nil) .nil))) (.cons (.ret (.bl true)) .nil))) }
def dr26 : DR := { name := "turns", kd := .fn false, ps := ["web", "before", "after"], N := ["web", "before", "after"], body :=
  (.cons (.ret (.cmp .ne (.ix (.meth "Web" "head" 22 (.slot 0) (.cons (.slot 1) .nil)) (.int 1)) (.ix (.meth "Web" "tail" 16 (.slot 0) (.cons (.slot 2) .nil)) (.int 1)))) .nil) }
def dr27 : DR := { name := "_law_right_step", kd := .fn false, ps := ["_law_web_here", "_law_ties", "_law_step"], N := ["_law_web_here", "_law_ties", "_law_step", "_law_due", "_law_told", "_law_place", "_law_side", "_law_tie", "_law_direction", "_law_after", "_law_turned"], body :=
  (.cons (.asg (.name 3) (.call 21 (.cons (.slot 1) (.cons (.slot 2) .nil)))) (.cons (.frz 3) (.cons (.asg (.name 4) (.call 23 (.cons (.slot 0) (.cons (.slot 2) .nil)))) (.cons (.ife (.not (.v (.call 25 (.cons (.slot 4) (.cons (.slot 3) .nil))))) (.cons (.ret (.bl false)) .nil) .nil) (.cons (.app 4 .nil (.tup (.cons (.int 0) (.cons (.int 0) .nil)))) (.cons (.frz 4) (.cons (.asg (.tup [5, 6]) (.call 20 (.cons (.slot 1) (.cons (.slot 2) .nil)))) (.cons (.fr (.r1 (.blt .len (.slot 1))) (.name 7) (.cons (.fr (.r1 (.int 2)) (.name 8) (.cons (.asg (.name 9) (.tup (.cons (.slot 7) (.cons (.slot 8) .nil)))) (.cons (.ife (.b (.cmp .eq (.ix (.call 19 (.cons (.slot 1) (.cons (.slot 9) .nil))) (.int 0)) (.slot 5))) (.cons (.asg (.name 10) (.call 26 (.cons (.slot 0) (.cons (.slot 2) (.cons (.slot 9) .nil))))) (.cons (.frz 10) (.cons (.ife (.or (.cons (.not (.v (.isi "bool" (.slot 10)))) (.cons (.b (.cmp .ne (.slot 10) (.cmp .isin (.slot 9) (.slot 3)))) .nil))) (.cons (.ret (.bl false)) .nil) .nil) .nil))) .nil) .nil))) .nil)) (.cons (.ret (.bl true)) .nil))))))))) }
def dr28 : DR := { name := "_law_refused", kd := .fn false, ps := ["_law_web_here", "_law_step"], N := ["_law_web_here", "_law_step", "e"], body :=
  (.cons (.tryx (.expr (.call 23 (.cons (.slot 0) (.cons (.slot 1) .nil))) (.ret (.bl false))) 2 "ComesapartError" (.cons (.ret (.and (.cons (.isX "UnknownTie" 2) (.cons (.isX "ValueError" 2) (.cons (.cmp .eq (.xfld "UnknownTie" "tie" 2) (.ix (.slot 1) (.int 0))) .nil))))) .nil)) .nil) }
def dr29 : DR := { name := "_law_right", kd := .fn false, ps := ["_law_web_here", "_law_sides", "_law_ties"], N := ["_law_web_here", "_law_sides", "_law_ties", "_law_tie", "_law_direction"], body :=
  (.cons (.fr (.r1 (.blt .len (.slot 2))) (.name 3) (.cons (.fr (.r1 (.int 2)) (.name 4) (.cons (.ife (.not (.v (.call 27 (.cons (.slot 0) (.cons (.slot 2) (.cons (.tup (.cons (.slot 3) (.cons (.slot 4) .nil))) .nil)))))) (.cons (.ret (.bl false)) .nil) .nil) .nil)) .nil)) (.cons (.fr (.seq (.lst (.cons (.neg (.int 1)) (.cons (.blt .len (.slot 2)) (.cons (.bin .add (.blt .len (.slot 2)) (.int 4)) .nil))))) (.name 3) (.cons (.ife (.or (.cons (.not (.v (.call 28 (.cons (.slot 0) (.cons (.tup (.cons (.slot 3) (.cons (.int 0) .nil))) .nil))))) (.cons (.not (.v (.call 28 (.cons (.slot 0) (.cons (.tup (.cons (.slot 3) (.cons (.int 1) .nil))) .nil))))) .nil))) (.cons (.ret (.bl false)) .nil) .nil) .nil)) (.cons (.ret (.and (.cons (.cmp .eq (.blt .list (.fld "Web" "sides" (.slot 0))) (.slot 1)) (.cons (.cmp .eq (.blt .list (.fld "Web" "ties" (.slot 0))) (.slot 2)) .nil)))) .nil))) }
def dr30 : DR := { name := "law", kd := .fn false, ps := ["_law_script"], N := ["_law_script", "_law_extra", "_law_most", "_law_sides", "_law_ties", "_law_more_sides", "_law_more_ties", "_law_first", "_law_second"], body :=
  (.cons (.asg (.name 1) (.call 0 (.cons (.call 1 (.cons (.slot 0) (.cons (.int 2) .nil))) (.cons (.int 2) .nil)))) (.cons (.frz 1) (.cons (.asg (.name 2) (.int 7)) (.cons (.ife (.b (.cmp .eq (.call 2 (.cons (.slot 1) (.cons (.int 0) (.cons (.int 3) .nil)))) (.int 1))) (.cons (.asg (.name 2) (.int 2)) .nil) .nil) (.cons (.asg (.tup [3, 4]) (.call 3 (.cons (.call 0 (.cons (.call 1 (.cons (.slot 0) (.cons (.int 0) .nil))) (.cons (.int 60) .nil))) (.cons (.slot 2) (.cons (.int 12) .nil))))) (.cons (.asg (.tup [5, 6]) (.call 3 (.cons (.call 0 (.cons (.call 1 (.cons (.slot 0) (.cons (.int 1) .nil))) (.cons (.int 60) .nil))) (.cons (.slot 2) (.cons (.int 12) .nil))))) (.cons (.asg (.name 7) (.make "Web" 18 (.cons (.blt .list (.slot 3)) (.cons (.blt .list (.slot 4)) .nil)))) (.cons (.frz 7) (.cons (.asg (.name 8) (.make "Web" 18 (.cons (.blt .list (.slot 5)) (.cons (.blt .list (.slot 6)) .nil)))) (.cons (.frz 8) (.cons (.ife (.not (.v (.call 29 (.cons (.slot 7) (.cons (.slot 3) (.cons (.slot 4) .nil)))))) (.cons (.ret (.bl false)) .nil) .nil) (.cons (.ret (.and (.cons (.call 29 (.cons (.slot 8) (.cons (.slot 5) (.cons (.slot 6) .nil)))) (.cons (.call 29 (.cons (.slot 7) (.cons (.slot 3) (.cons (.slot 4) .nil)))) .nil)))) .nil)))))))))))) }
def drs : List DR := [dr30, dr29, dr28, dr27, dr26, dr25, dr24, dr23, dr22, dr21, dr20, dr19, dr18, dr17, dr16, dr15, dr14, dr13, dr12, dr11, dr10, dr9, dr8, dr7, dr6, dr5, dr4, dr3, dr2, dr1, dr0]
def q0 : DQ := ⟨dr0, top 21, "_law_draws"⟩
def q1 : DQ := ⟨dr1, top 20, "_law_cell"⟩
def q2 : DQ := ⟨dr2, top 22, "_law_pick"⟩
def q3 : DQ := ⟨dr3, top 23, "_law_web"⟩
def q4 : DQ := ⟨dr4, cst 5 0, "TooLarge.__init__"⟩
def q5 : DQ := ⟨dr5, top 11, "check_limits"⟩
def q6 : DQ := ⟨dr6, cst 8 0, "BadSides.__init__"⟩
def q7 : DQ := ⟨dr7, top 12, "check_sides"⟩
def q8 : DQ := ⟨dr8, cst 6 0, "UnknownPlace.__init__"⟩
def q9 : DQ := ⟨dr9, cst 7 0, "UnknownSide.__init__"⟩
def q10 : DQ := ⟨dr10, top 13, "check_end"⟩
def q11 : DQ := ⟨dr11, top 14, "check_tie"⟩
def q12 : DQ := ⟨dr12, top 15, "steps_by_place"⟩
def q13 : DQ := ⟨dr13, cst 16 4, "Web.__contains__"⟩
def q14 : DQ := ⟨dr14, cst 16 13, "Web.steps_from"⟩
def q15 : DQ := ⟨dr15, cst 9 0, "UnknownTie.__init__"⟩
def q16 : DQ := ⟨dr16, cst 16 11, "Web.tail"⟩
def q17 : DQ := ⟨dr17, cst 16 14, "Web.used_sides"⟩
def q18 : DQ := ⟨dr18, cst 16 3, "Web.__init__"⟩
def q19 : DQ := ⟨dr19, top 25, "_law_tail"⟩
def q20 : DQ := ⟨dr20, top 26, "_law_head"⟩
def q21 : DQ := ⟨dr21, top 27, "_law_followers"⟩
def q22 : DQ := ⟨dr22, cst 16 12, "Web.head"⟩
def q23 : DQ := ⟨dr23, top 2, "followers"⟩
def q24 : DQ := ⟨dr24, top 24, "_law_is_number"⟩
def q25 : DQ := ⟨dr25, top 28, "_law_steps"⟩
def q26 : DQ := ⟨dr26, top 18, "turns"⟩
def q27 : DQ := ⟨dr27, top 30, "_law_right_step"⟩
def q28 : DQ := ⟨dr28, top 29, "_law_refused"⟩
def q29 : DQ := ⟨dr29, top 31, "_law_right"⟩
def q30 : DQ := ⟨dr30, top 32, "law"⟩
def qs : List DQ := [q30, q29, q28, q27, q26, q25, q24, q23, q22, q21, q20, q19, q18, q17, q16, q15, q14, q13, q12, q11, q10, q9, q8, q7, q6, q5, q4, q3, q2, q1, q0]
def ct : CT := ⟨["Web"], [("TooLarge", "ComesapartError", true), ("TooLarge", "UnknownTie", false), ("TooLarge", "ValueError", true), ("UnknownPlace", "ComesapartError", true), ("UnknownPlace", "UnknownTie", false), ("UnknownPlace", "ValueError", true), ("UnknownSide", "ComesapartError", true), ("UnknownSide", "UnknownTie", false), ("UnknownSide", "ValueError", true), ("BadSides", "ComesapartError", true), ("BadSides", "UnknownTie", false), ("BadSides", "ValueError", true), ("UnknownTie", "ComesapartError", true), ("UnknownTie", "UnknownTie", true), ("UnknownTie", "ValueError", true)]⟩
def fc : List Fk := [.make "Web", .fld "Web" "sides", .fld "Web" "ties", .fld "Web" "_leaving", .fld "Web" "_joints", .meth "Web" "used_sides", .con "Web" "MOST_PLACES" 200, .rai "TooLarge", .con "Web" "MOST_TIES" 300, .con "Web" "MOST_SIDES" 4, .rai "BadSides", .rai "UnknownPlace", .rai "UnknownSide", .meth "Web" "steps_from", .meth "Web" "tail", .inc "Web", .rai "UnknownTie", .meth "Web" "head", .cls "ComesapartError", .cls "UnknownTie", .xfl "UnknownTie" "tie"]
def others : List Str := ["ComesapartError", "TooLarge", "UnknownPlace", "UnknownSide", "BadSides", "UnknownTie", "Web", "_wall", "followers", "check_limits", "check_sides", "check_end", "check_tie", "steps_by_place", "turns", "_law_cell", "_law_draws", "_law_pick", "_law_web", "_law_is_number", "_law_tail", "_law_head", "_law_followers", "_law_steps", "_law_refused", "_law_right_step", "_law_right"]
def lawAt : Nat := 32
def tx : TX := ⟨qs, ct, fc, PySem.Challenge.rw_comesapart_k08_followers_turn_at_their_p.prog.main.file⟩
end K08
namespace K08
open PySem PySem.Spec PyProof.Rows L2 EV
theorem ok : okR fc (qs.map DQ.d) (qs.map DQ.st) = true := by decide +kernel
theorem bd0 : q0.bd := fun _ _ _ _ _ _ _ us hl => match us, hl with | [_, _], _ => rfl
theorem bd1 : q1.bd := fun _ _ _ _ _ _ _ us hl => match us, hl with | [_, _], _ => rfl
theorem bd2 : q2.bd := fun _ _ _ _ _ _ _ us hl => match us, hl with | [_, _, _], _ => rfl
theorem bd3 : q3.bd := fun _ _ _ _ _ _ _ us hl => match us, hl with | [_, _, _], _ => rfl
theorem bd4 : q4.bd := fun _ _ _ _ _ _ _ us hl => match us, hl with | [_, _], _ => rfl
theorem bd5 : q5.bd := fun _ _ _ _ _ _ _ us hl => match us, hl with | [_, _], _ => rfl
theorem bd6 : q6.bd := fun _ _ _ _ _ _ _ us hl => match us, hl with | [_, _], _ => rfl
theorem bd7 : q7.bd := fun _ _ _ _ _ _ _ us hl => match us, hl with | [_, _], _ => rfl
theorem bd8 : q8.bd := fun _ _ _ _ _ _ _ us hl => match us, hl with | [_, _], _ => rfl
theorem bd9 : q9.bd := fun _ _ _ _ _ _ _ us hl => match us, hl with | [_, _, _], _ => rfl
theorem bd10 : q10.bd := fun _ _ _ _ _ _ _ us hl => match us, hl with | [_, _, _], _ => rfl
theorem bd11 : q11.bd := fun _ _ _ _ _ _ _ us hl => match us, hl with | [_, _], _ => rfl
theorem bd12 : q12.bd := fun _ _ _ _ _ _ _ us hl => match us, hl with | [_, _], _ => rfl
theorem bd13 : q13.bd := fun _ _ _ _ _ _ _ us hl => match us, hl with | [_, _], _ => rfl
theorem bd14 : q14.bd := fun _ _ _ _ _ _ _ us hl => match us, hl with | [_, _], _ => rfl
theorem bd15 : q15.bd := fun _ _ _ _ _ _ _ us hl => match us, hl with | [_, _], _ => rfl
theorem bd16 : q16.bd := fun _ _ _ _ _ _ _ us hl => match us, hl with | [_, _], _ => rfl
theorem bd17 : q17.bd := fun _ _ _ _ _ _ _ us hl => match us, hl with | [_, _], _ => rfl
theorem bd18 : q18.bd := fun _ _ _ _ _ _ _ us hl => match us, hl with | [_, _, _], _ => rfl
theorem bd19 : q19.bd := fun _ _ _ _ _ _ _ us hl => match us, hl with | [_, _], _ => rfl
theorem bd20 : q20.bd := fun _ _ _ _ _ _ _ us hl => match us, hl with | [_, _], _ => rfl
theorem bd21 : q21.bd := fun _ _ _ _ _ _ _ us hl => match us, hl with | [_, _], _ => rfl
theorem bd22 : q22.bd := fun _ _ _ _ _ _ _ us hl => match us, hl with | [_, _], _ => rfl
theorem bd23 : q23.bd := fun _ _ _ _ _ _ _ us hl => match us, hl with | [_, _], _ => rfl
theorem bd24 : q24.bd := fun _ _ _ _ _ _ _ us hl => match us, hl with | [_], _ => rfl
theorem bd25 : q25.bd := fun _ _ _ _ _ _ _ us hl => match us, hl with | [_, _], _ => rfl
theorem bd26 : q26.bd := fun _ _ _ _ _ _ _ us hl => match us, hl with | [_, _, _], _ => rfl
theorem bd27 : q27.bd := fun _ _ _ _ _ _ _ us hl => match us, hl with | [_, _, _], _ => rfl
theorem bd28 : q28.bd := fun _ _ _ _ _ _ _ us hl => match us, hl with | [_, _], _ => rfl
theorem bd29 : q29.bd := fun _ _ _ _ _ _ _ us hl => match us, hl with | [_, _, _], _ => rfl
theorem bd30 : q30.bd := fun _ _ _ _ _ _ _ us hl => match us, hl with | [_], _ => rfl
theorem bd : ∀ q ∈ tx.qs, q.bd := by
  intro q h
  have h : q ∈ qs := h
  simp only [qs, List.mem_cons, List.not_mem_nil, or_false] at h
  rcases h with rfl | rfl | rfl | rfl | rfl | rfl | rfl | rfl | rfl | rfl | rfl | rfl | rfl | rfl | rfl | rfl | rfl | rfl | rfl | rfl | rfl | rfl | rfl | rfl | rfl | rfl | rfl | rfl | rfl | rfl | rfl
  · exact bd30
  · exact bd29
  · exact bd28
  · exact bd27
  · exact bd26
  · exact bd25
  · exact bd24
  · exact bd23
  · exact bd22
  · exact bd21
  · exact bd20
  · exact bd19
  · exact bd18
  · exact bd17
  · exact bd16
  · exact bd15
  · exact bd14
  · exact bd13
  · exact bd12
  · exact bd11
  · exact bd10
  · exact bd9
  · exact bd8
  · exact bd7
  · exact bd6
  · exact bd5
  · exact bd4
  · exact bd3
  · exact bd2
  · exact bd1
  · exact bd0
theorem so : ∀ q ∈ tx.qs, q.sok = true := List.all_eq_true.mp (show (qs.all fun q => q.sok) = true by decide +kernel)
theorem hq : ∀ q ∈ tx.qs, q.d.kd.isFn = true → q.qual = q.d.name := fun q hm h => by
  have := List.all_eq_true.mp (show (qs.all fun q => !q.d.kd.isFn || decide (q.qual = q.d.name)) = true by decide +kernel) q hm
  rw [h] at this
  exact of_decide_eq_true (by simpa using this)
end K08
namespace K08
open PySem PySem.Spec PyProof.Rows L2 EV
abbrev hk : PySem.W.Hook := tx.hook 6
def ob (s : PySem.W.SharedT) : AlQ := tx.obsG 6 (HandSHeadRun.getT s)
theorem ob_eq (s : PySem.W.SharedT) : ob s = hk.obs s.abs := TX.obsG_eq (HandSHeadRun.getT_eq s)
theorem run (w : World) : HandSHeadRun.RunEq R (PySem.W.view R.prog [lawAt]) hk ob 4000 others w := by
  intro os
  kernel_rfl
end K08
namespace K08
open PySem L2 EV
/-! what the defs do, def by def -/
abbrev cs : Cs' := ct.cs fc
noncomputable def T0 : Tab := cs.tab (tabR cs [])
noncomputable def T1 : Tab := cs.tab (tabR cs [dr0])
noncomputable def T2 : Tab := cs.tab (tabR cs [dr1, dr0])
noncomputable def T3 : Tab := cs.tab (tabR cs [dr2, dr1, dr0])
noncomputable def T4 : Tab := cs.tab (tabR cs [dr3, dr2, dr1, dr0])
noncomputable def T5 : Tab := cs.tab (tabR cs [dr4, dr3, dr2, dr1, dr0])
noncomputable def T6 : Tab := cs.tab (tabR cs [dr5, dr4, dr3, dr2, dr1, dr0])
noncomputable def T7 : Tab := cs.tab (tabR cs [dr6, dr5, dr4, dr3, dr2, dr1, dr0])
noncomputable def T8 : Tab := cs.tab (tabR cs [dr7, dr6, dr5, dr4, dr3, dr2, dr1, dr0])
noncomputable def T9 : Tab := cs.tab (tabR cs [dr8, dr7, dr6, dr5, dr4, dr3, dr2, dr1, dr0])
noncomputable def T10 : Tab := cs.tab (tabR cs [dr9, dr8, dr7, dr6, dr5, dr4, dr3, dr2, dr1, dr0])
noncomputable def T11 : Tab := cs.tab (tabR cs [dr10, dr9, dr8, dr7, dr6, dr5, dr4, dr3, dr2, dr1, dr0])
noncomputable def T12 : Tab := cs.tab (tabR cs [dr11, dr10, dr9, dr8, dr7, dr6, dr5, dr4, dr3, dr2, dr1, dr0])
noncomputable def T13 : Tab := cs.tab (tabR cs [dr12, dr11, dr10, dr9, dr8, dr7, dr6, dr5, dr4, dr3, dr2, dr1, dr0])
noncomputable def T14 : Tab := cs.tab (tabR cs [dr13, dr12, dr11, dr10, dr9, dr8, dr7, dr6, dr5, dr4, dr3, dr2, dr1, dr0])
noncomputable def T15 : Tab := cs.tab (tabR cs [dr14, dr13, dr12, dr11, dr10, dr9, dr8, dr7, dr6, dr5, dr4, dr3, dr2, dr1, dr0])
noncomputable def T16 : Tab := cs.tab (tabR cs [dr15, dr14, dr13, dr12, dr11, dr10, dr9, dr8, dr7, dr6, dr5, dr4, dr3, dr2, dr1, dr0])
noncomputable def T17 : Tab := cs.tab (tabR cs [dr16, dr15, dr14, dr13, dr12, dr11, dr10, dr9, dr8, dr7, dr6, dr5, dr4, dr3, dr2, dr1, dr0])
noncomputable def T18 : Tab := cs.tab (tabR cs [dr17, dr16, dr15, dr14, dr13, dr12, dr11, dr10, dr9, dr8, dr7, dr6, dr5, dr4, dr3, dr2, dr1, dr0])
noncomputable def T19 : Tab := cs.tab (tabR cs [dr18, dr17, dr16, dr15, dr14, dr13, dr12, dr11, dr10, dr9, dr8, dr7, dr6, dr5, dr4, dr3, dr2, dr1, dr0])
noncomputable def T20 : Tab := cs.tab (tabR cs [dr19, dr18, dr17, dr16, dr15, dr14, dr13, dr12, dr11, dr10, dr9, dr8, dr7, dr6, dr5, dr4, dr3, dr2, dr1, dr0])
noncomputable def T21 : Tab := cs.tab (tabR cs [dr20, dr19, dr18, dr17, dr16, dr15, dr14, dr13, dr12, dr11, dr10, dr9, dr8, dr7, dr6, dr5, dr4, dr3, dr2, dr1, dr0])
noncomputable def T22 : Tab := cs.tab (tabR cs [dr21, dr20, dr19, dr18, dr17, dr16, dr15, dr14, dr13, dr12, dr11, dr10, dr9, dr8, dr7, dr6, dr5, dr4, dr3, dr2, dr1, dr0])
noncomputable def T23 : Tab := cs.tab (tabR cs [dr22, dr21, dr20, dr19, dr18, dr17, dr16, dr15, dr14, dr13, dr12, dr11, dr10, dr9, dr8, dr7, dr6, dr5, dr4, dr3, dr2, dr1, dr0])
noncomputable def T24 : Tab := cs.tab (tabR cs [dr23, dr22, dr21, dr20, dr19, dr18, dr17, dr16, dr15, dr14, dr13, dr12, dr11, dr10, dr9, dr8, dr7, dr6, dr5, dr4, dr3, dr2, dr1, dr0])
noncomputable def T25 : Tab := cs.tab (tabR cs [dr24, dr23, dr22, dr21, dr20, dr19, dr18, dr17, dr16, dr15, dr14, dr13, dr12, dr11, dr10, dr9, dr8, dr7, dr6, dr5, dr4, dr3, dr2, dr1, dr0])
noncomputable def T26 : Tab := cs.tab (tabR cs [dr25, dr24, dr23, dr22, dr21, dr20, dr19, dr18, dr17, dr16, dr15, dr14, dr13, dr12, dr11, dr10, dr9, dr8, dr7, dr6, dr5, dr4, dr3, dr2, dr1, dr0])
noncomputable def T27 : Tab := cs.tab (tabR cs [dr26, dr25, dr24, dr23, dr22, dr21, dr20, dr19, dr18, dr17, dr16, dr15, dr14, dr13, dr12, dr11, dr10, dr9, dr8, dr7, dr6, dr5, dr4, dr3, dr2, dr1, dr0])
noncomputable def T28 : Tab := cs.tab (tabR cs [dr27, dr26, dr25, dr24, dr23, dr22, dr21, dr20, dr19, dr18, dr17, dr16, dr15, dr14, dr13, dr12, dr11, dr10, dr9, dr8, dr7, dr6, dr5, dr4, dr3, dr2, dr1, dr0])
noncomputable def T29 : Tab := cs.tab (tabR cs [dr28, dr27, dr26, dr25, dr24, dr23, dr22, dr21, dr20, dr19, dr18, dr17, dr16, dr15, dr14, dr13, dr12, dr11, dr10, dr9, dr8, dr7, dr6, dr5, dr4, dr3, dr2, dr1, dr0])
noncomputable def T30 : Tab := cs.tab (tabR cs [dr29, dr28, dr27, dr26, dr25, dr24, dr23, dr22, dr21, dr20, dr19, dr18, dr17, dr16, dr15, dr14, dr13, dr12, dr11, dr10, dr9, dr8, dr7, dr6, dr5, dr4, dr3, dr2, dr1, dr0])
noncomputable def F0 : FD := ⟨2, fun ds => runF T0 7 dr0.body ds⟩
noncomputable def F1 : FD := ⟨2, fun ds => runF T1 2 dr1.body ds⟩
noncomputable def F2 : FD := ⟨3, fun ds => runF T2 3 dr2.body ds⟩
noncomputable def F3 : FD := ⟨3, fun ds => runF T3 12 dr3.body ds⟩
noncomputable def F4 : FD := ⟨2, semX "TooLarge" 2 [("limit", 1)]⟩
noncomputable def F5 : FD := ⟨2, fun ds => runF T5 2 dr5.body ds⟩
noncomputable def F6 : FD := ⟨2, semX "BadSides" 2 [("place", 1)]⟩
noncomputable def F7 : FD := ⟨2, fun ds => runF T7 2 dr7.body ds⟩
noncomputable def F8 : FD := ⟨2, semX "UnknownPlace" 2 [("place", 1)]⟩
noncomputable def F9 : FD := ⟨3, semX "UnknownSide" 3 [("place", 1), ("side", 2)]⟩
noncomputable def F10 : FD := ⟨3, fun ds => runF T10 3 dr10.body ds⟩
noncomputable def F11 : FD := ⟨2, fun ds => runF T11 6 dr11.body ds⟩
noncomputable def F12 : FD := ⟨2, fun ds => runF T12 7 dr12.body ds⟩
noncomputable def F13 : FD := ⟨2, fun ds => runF T13 2 dr13.body ds⟩
noncomputable def F14 : FD := ⟨2, fun ds => runF T14 2 dr14.body ds⟩
noncomputable def F15 : FD := ⟨2, semX "UnknownTie" 2 [("tie", 1)]⟩
noncomputable def F16 : FD := ⟨2, fun ds => runF T16 8 dr16.body ds⟩
noncomputable def F17 : FD := ⟨2, fun ds => runF T17 3 dr17.body ds⟩
noncomputable def F18 : FD := ⟨3, fun ds => runI T18 "Web" 6 dr18.body ds⟩
noncomputable def F19 : FD := ⟨2, fun ds => runF T19 3 dr19.body ds⟩
noncomputable def F20 : FD := ⟨2, fun ds => runF T20 2 dr20.body ds⟩
noncomputable def F21 : FD := ⟨2, fun ds => runF T21 9 dr21.body ds⟩
noncomputable def F22 : FD := ⟨2, fun ds => runF T22 4 dr22.body ds⟩
noncomputable def F23 : FD := ⟨2, fun ds => runF T23 5 dr23.body ds⟩
noncomputable def F24 : FD := ⟨1, fun ds => runF T24 1 dr24.body ds⟩
noncomputable def F25 : FD := ⟨2, fun ds => runF T25 3 dr25.body ds⟩
noncomputable def F26 : FD := ⟨3, fun ds => runF T26 3 dr26.body ds⟩
noncomputable def F27 : FD := ⟨3, fun ds => runF T27 11 dr27.body ds⟩
noncomputable def F28 : FD := ⟨2, fun ds => runF T28 3 dr28.body ds⟩
noncomputable def F29 : FD := ⟨3, fun ds => runF T29 5 dr29.body ds⟩
noncomputable def F30 : FD := ⟨1, fun ds => runF T30 9 dr30.body ds⟩
theorem t3_2 : T3.fd 2 = F2 := rfl
theorem t5_4 : T5.fd 4 = F4 := rfl
theorem t7_6 : T7.fd 6 = F6 := rfl
theorem t10_8 : T10.fd 8 = F8 := rfl
theorem t10_9 : T10.fd 9 = F9 := rfl
theorem t11_10 : T11.fd 10 = F10 := rfl
theorem t14_8 : T14.fd 8 = F8 := rfl
theorem t14_13 : T14.fd 13 = F13 := rfl
theorem t16_15 : T16.fd 15 = F15 := rfl
theorem t17_14 : T17.fd 14 = F14 := rfl
theorem t17_16 : T17.fd 16 = F16 := rfl
theorem t18_5 : T18.fd 5 = F5 := rfl
theorem t18_7 : T18.fd 7 = F7 := rfl
theorem t18_11 : T18.fd 11 = F11 := rfl
theorem t18_12 : T18.fd 12 = F12 := rfl
theorem t18_17 : T18.fd 17 = F17 := rfl
theorem t20_19 : T20.fd 19 = F19 := rfl
theorem t21_19 : T21.fd 19 = F19 := rfl
theorem t21_20 : T21.fd 20 = F20 := rfl
theorem t22_16 : T22.fd 16 = F16 := rfl
theorem t23_14 : T23.fd 14 = F14 := rfl
theorem t23_16 : T23.fd 16 = F16 := rfl
theorem t23_22 : T23.fd 22 = F22 := rfl
theorem t25_24 : T25.fd 24 = F24 := rfl
theorem t26_16 : T26.fd 16 = F16 := rfl
theorem t26_22 : T26.fd 22 = F22 := rfl
theorem t27_19 : T27.fd 19 = F19 := rfl
theorem t27_20 : T27.fd 20 = F20 := rfl
theorem t27_21 : T27.fd 21 = F21 := rfl
theorem t27_23 : T27.fd 23 = F23 := rfl
theorem t27_25 : T27.fd 25 = F25 := rfl
theorem t27_26 : T27.fd 26 = F26 := rfl
theorem t28_23 : T28.fd 23 = F23 := rfl
theorem t29_27 : T29.fd 27 = F27 := rfl
theorem t29_28 : T29.fd 28 = F28 := rfl
theorem t30_0 : T30.fd 0 = F0 := rfl
theorem t30_1 : T30.fd 1 = F1 := rfl
theorem t30_2 : T30.fd 2 = F2 := rfl
theorem t30_3 : T30.fd 3 = F3 := rfl
theorem t30_18 : T30.fd 18 = F18 := rfl
theorem t30_29 : T30.fd 29 = F29 := rfl
theorem law_sem (ds : List D) : (tabR cs drs 30).sem ds = F30.sem ds := rfl
end K08
namespace K08
open PySem L2 EV
theorem cell_scr (ns : List Int) (k : Int) (hk : 0 ≤ k) : Wp (F1.sem [.scr ns, .int k]) fun d => ∃ c, d = .int c := by
  simp [F1, runF, dr1, evSs, evS, evE, evEs, evP, evO, evTo, evT, evAnd, evOr, evTA, evTO, evIt, evB, wp_bind, wp_nx, wp_if, wp_ok, wp_st, ok_bind, ok_nx, ok_rt, EV.R.of_some, rof_if, nxQ_nx, nxQ_rt, wp_noEx, g_0, g_s, s_0, s_s, s_t2, bb, zz, tru_bl, noEx_j, isi_list, isi_int, isi_bool, q_ll, q_llb, lenOk_of, b_add, b_sub, b_mul, b_div, b_mod, b_pow, mulOk_r, mulOk_l, divOk_of, c_lt, c_le, c_gt, c_ge, c_eq, c_ne, c_in, c_ni, dIn_dic, x_lst, x_scr, x_dic, l_lst, l_scr, l_abs, l_int, l_list, l_tup, l_sorted, l_sortedk, i_int, q_lst, q_lstp, q_b, q_bp, q_tup, q_tupp, a_app, a_put, t_0, t_s, rng_of, li_zz, li_bb, li_clean, li_z, pr_zz, pr_bb, pr_clean, pr_z, ll_zz, ll_bb, ll_cleanO, ll_cleanZ, ll_z, clean, isZ, isZs, cleans, zzs, bbs, Fl.bb, dIn_li, dEq_li, dEq_pr, dEq_ll, dEq_int, taint, taints, li_taint, pr_taint, ll_taint, Fl.tt, li_len, pr_len, ll_len, EV.keyOf, List.map_cons, List.map_nil, List.length_cons, List.length_nil, List.set_cons_zero, List.set_cons_succ, Option.map_some]
  intro h
  simp [atI_ok hk h, evSs, evS, evE, evEs, evP, evO, evTo, evT, evAnd, evOr, evTA, evTO, evIt, evB, wp_bind, wp_nx, wp_if, wp_ok, wp_st, ok_bind, ok_nx, ok_rt, EV.R.of_some, rof_if, nxQ_nx, nxQ_rt, wp_noEx, g_0, g_s, s_0, s_s, s_t2, bb, zz, tru_bl, noEx_j, isi_list, isi_int, isi_bool, q_ll, q_llb, lenOk_of, b_add, b_sub, b_mul, b_div, b_mod, b_pow, mulOk_r, mulOk_l, divOk_of, c_lt, c_le, c_gt, c_ge, c_eq, c_ne, c_in, c_ni, dIn_dic, x_lst, x_scr, x_dic, l_lst, l_scr, l_abs, l_int, l_list, l_tup, l_sorted, l_sortedk, i_int, q_lst, q_lstp, q_b, q_bp, q_tup, q_tupp, a_app, a_put, t_0, t_s, rng_of, li_zz, li_bb, li_clean, li_z, pr_zz, pr_bb, pr_clean, pr_z, ll_zz, ll_bb, ll_cleanO, ll_cleanZ, ll_z, clean, isZ, isZs, cleans, zzs, bbs, Fl.bb, dIn_li, dEq_li, dEq_pr, dEq_ll, dEq_int, taint, taints, li_taint, pr_taint, ll_taint, Fl.tt, li_len, pr_len, ll_len, EV.keyOf, List.map_cons, List.map_nil, List.length_cons, List.length_nil, List.set_cons_zero, List.set_cons_succ, Option.map_some]
theorem cell_lst (ns : List Int) (k : Int) (hk : 0 ≤ k) : Wp (F1.sem [.lst .z (li ns), .int k]) fun d => ∃ c, d = .int c := by
  simp [F1, runF, dr1, evSs, evS, evE, evEs, evP, evO, evTo, evT, evAnd, evOr, evTA, evTO, evIt, evB, wp_bind, wp_nx, wp_if, wp_ok, wp_st, ok_bind, ok_nx, ok_rt, EV.R.of_some, rof_if, nxQ_nx, nxQ_rt, wp_noEx, g_0, g_s, s_0, s_s, s_t2, bb, zz, tru_bl, noEx_j, isi_list, isi_int, isi_bool, q_ll, q_llb, lenOk_of, b_add, b_sub, b_mul, b_div, b_mod, b_pow, mulOk_r, mulOk_l, divOk_of, c_lt, c_le, c_gt, c_ge, c_eq, c_ne, c_in, c_ni, dIn_dic, x_lst, x_scr, x_dic, l_lst, l_scr, l_abs, l_int, l_list, l_tup, l_sorted, l_sortedk, i_int, q_lst, q_lstp, q_b, q_bp, q_tup, q_tupp, a_app, a_put, t_0, t_s, rng_of, li_zz, li_bb, li_clean, li_z, pr_zz, pr_bb, pr_clean, pr_z, ll_zz, ll_bb, ll_cleanO, ll_cleanZ, ll_z, clean, isZ, isZs, cleans, zzs, bbs, Fl.bb, dIn_li, dEq_li, dEq_pr, dEq_ll, dEq_int, taint, taints, li_taint, pr_taint, ll_taint, Fl.tt, li_len, pr_len, ll_len, EV.keyOf, List.map_cons, List.map_nil, List.length_cons, List.length_nil, List.set_cons_zero, List.set_cons_succ, Option.map_some]
  intro h
  have h2 : k < ((li ns).length : Int) := by rw [li_len]; exact h
  simp [atI_ok hk h2, evSs, evS, evE, evEs, evP, evO, evTo, evT, evAnd, evOr, evTA, evTO, evIt, evB, wp_bind, wp_nx, wp_if, wp_ok, wp_st, ok_bind, ok_nx, ok_rt, EV.R.of_some, rof_if, nxQ_nx, nxQ_rt, wp_noEx, g_0, g_s, s_0, s_s, s_t2, bb, zz, tru_bl, noEx_j, isi_list, isi_int, isi_bool, q_ll, q_llb, lenOk_of, b_add, b_sub, b_mul, b_div, b_mod, b_pow, mulOk_r, mulOk_l, divOk_of, c_lt, c_le, c_gt, c_ge, c_eq, c_ne, c_in, c_ni, dIn_dic, x_lst, x_scr, x_dic, l_lst, l_scr, l_abs, l_int, l_list, l_tup, l_sorted, l_sortedk, i_int, q_lst, q_lstp, q_b, q_bp, q_tup, q_tupp, a_app, a_put, t_0, t_s, rng_of, li_zz, li_bb, li_clean, li_z, pr_zz, pr_bb, pr_clean, pr_z, ll_zz, ll_bb, ll_cleanO, ll_cleanZ, ll_z, clean, isZ, isZs, cleans, zzs, bbs, Fl.bb, dIn_li, dEq_li, dEq_pr, dEq_ll, dEq_int, taint, taints, li_taint, pr_taint, ll_taint, Fl.tt, li_len, pr_len, ll_len, EV.keyOf, List.map_cons, List.map_nil, List.length_cons, List.length_nil, List.set_cons_zero, List.set_cons_succ, Option.map_some]
  simp [li, List.getElem_map]
def I4 (c m : Int) (i : Nat) (e : EV.Env) : Prop := ∃ (r mx : Int) (ex : Bool) (L : List Int) (v : Option D), e = [some (.int c), some (.int m), some (.int r), some (.bl ex), some (.int mx), some (.lst .o (li L)), v] ∧ L.length = i
theorem pow18 : powOk 10 18 = true := by decide
theorem pow20 : powOk 10 20 = true := by decide
theorem draws_ok (c m : Int) (h0 : 0 ≤ m) (h1 : m ≤ 60) : Wp (F0.sem [.int c, .int m]) fun d => ∃ L : List Int, d = .lst .o (li L) ∧ (L.length : Int) = m := by
  simp [F0, runF, dr0, evSs, evS, evE, evEs, evP, evO, evTo, evT, evAnd, evOr, evTA, evTO, evIt, evB, wp_bind, wp_nx, wp_if, wp_ok, wp_st, ok_bind, ok_nx, ok_rt, EV.R.of_some, rof_if, nxQ_nx, nxQ_rt, wp_noEx, g_0, g_s, s_0, s_s, s_t2, bb, zz, tru_bl, noEx_j, isi_list, isi_int, isi_bool, q_ll, q_llb, lenOk_of, b_add, b_sub, b_mul, b_div, b_mod, b_pow, mulOk_r, mulOk_l, divOk_of, c_lt, c_le, c_gt, c_ge, c_eq, c_ne, c_in, c_ni, dIn_dic, x_lst, x_scr, x_dic, l_lst, l_scr, l_abs, l_int, l_list, l_tup, l_sorted, l_sortedk, i_int, q_lst, q_lstp, q_b, q_bp, q_tup, q_tupp, a_app, a_put, t_0, t_s, rng_of, li_zz, li_bb, li_clean, li_z, pr_zz, pr_bb, pr_clean, pr_z, ll_zz, ll_bb, ll_cleanO, ll_cleanZ, ll_z, clean, isZ, isZs, cleans, zzs, bbs, Fl.bb, dIn_li, dEq_li, dEq_pr, dEq_ll, dEq_int, taint, taints, li_taint, pr_taint, ll_taint, Fl.tt, li_len, pr_len, ll_len, EV.keyOf, List.map_cons, List.map_nil, List.length_cons, List.length_nil, List.set_cons_zero, List.set_cons_succ, Option.map_some, pow18]
  refine ⟨fun _ => ?_, rng_of (by omega) (by omega)⟩
  refine wp_for (I4 c m) ⟨_, _, _, [], _, rfl, rfl⟩ ?_ ?_
  · rintro i d e hi ⟨r, mx, ex, L, v, rfl, hl⟩
    obtain ⟨rfl, hi2⟩ := range_get hi
    have hs : L.length < sizeLine := by show L.length < 16777216; omega
    cases ex
    · simp [evSs, evS, evE, evEs, evP, evO, evTo, evT, evAnd, evOr, evTA, evTO, evIt, evB, wp_bind, wp_nx, wp_if, wp_ok, wp_st, ok_bind, ok_nx, ok_rt, EV.R.of_some, rof_if, nxQ_nx, nxQ_rt, wp_noEx, g_0, g_s, s_0, s_s, s_t2, bb, zz, tru_bl, noEx_j, isi_list, isi_int, isi_bool, q_ll, q_llb, lenOk_of, b_add, b_sub, b_mul, b_div, b_mod, b_pow, mulOk_r, mulOk_l, divOk_of, c_lt, c_le, c_gt, c_ge, c_eq, c_ne, c_in, c_ni, dIn_dic, x_lst, x_scr, x_dic, l_lst, l_scr, l_abs, l_int, l_list, l_tup, l_sorted, l_sortedk, i_int, q_lst, q_lstp, q_b, q_bp, q_tup, q_tupp, a_app, a_put, t_0, t_s, rng_of, li_zz, li_bb, li_clean, li_z, pr_zz, pr_bb, pr_clean, pr_z, ll_zz, ll_bb, ll_cleanO, ll_cleanZ, ll_z, clean, isZ, isZs, cleans, zzs, bbs, Fl.bb, dIn_li, dEq_li, dEq_pr, dEq_ll, dEq_int, taint, taints, li_taint, pr_taint, ll_taint, Fl.tt, li_len, pr_len, ll_len, EV.keyOf, List.map_cons, List.map_nil, List.length_cons, List.length_nil, List.set_cons_zero, List.set_cons_succ, Option.map_some, hs]
      exact post_nx ⟨_, _, _, L ++ [_], _, by rw [li_app], by simp [hl]⟩
    · simp [evSs, evS, evE, evEs, evP, evO, evTo, evT, evAnd, evOr, evTA, evTO, evIt, evB, wp_bind, wp_nx, wp_if, wp_ok, wp_st, ok_bind, ok_nx, ok_rt, EV.R.of_some, rof_if, nxQ_nx, nxQ_rt, wp_noEx, g_0, g_s, s_0, s_s, s_t2, bb, zz, tru_bl, noEx_j, isi_list, isi_int, isi_bool, q_ll, q_llb, lenOk_of, b_add, b_sub, b_mul, b_div, b_mod, b_pow, mulOk_r, mulOk_l, divOk_of, c_lt, c_le, c_gt, c_ge, c_eq, c_ne, c_in, c_ni, dIn_dic, x_lst, x_scr, x_dic, l_lst, l_scr, l_abs, l_int, l_list, l_tup, l_sorted, l_sortedk, i_int, q_lst, q_lstp, q_b, q_bp, q_tup, q_tupp, a_app, a_put, t_0, t_s, rng_of, li_zz, li_bb, li_clean, li_z, pr_zz, pr_bb, pr_clean, pr_z, ll_zz, ll_bb, ll_cleanO, ll_cleanZ, ll_z, clean, isZ, isZs, cleans, zzs, bbs, Fl.bb, dIn_li, dEq_li, dEq_pr, dEq_ll, dEq_int, taint, taints, li_taint, pr_taint, ll_taint, Fl.tt, li_len, pr_len, ll_len, EV.keyOf, List.map_cons, List.map_nil, List.length_cons, List.length_nil, List.set_cons_zero, List.set_cons_succ, Option.map_some, hs]
      exact ⟨fun _ => post_nx ⟨_, _, _, L ++ [_], _, by rw [li_app], by simp [hl]⟩, fun _ => post_nx ⟨_, _, _, L ++ [_], _, by rw [li_app], by simp [hl]⟩⟩
  · rintro e ⟨r, mx, ex, L, v, rfl, hl⟩
    simp [evSs, evS, evE, evEs, evP, evO, evTo, evT, evAnd, evOr, evTA, evTO, evIt, evB, wp_bind, wp_nx, wp_if, wp_ok, wp_st, ok_bind, ok_nx, ok_rt, EV.R.of_some, rof_if, nxQ_nx, nxQ_rt, wp_noEx, g_0, g_s, s_0, s_s, s_t2, bb, zz, tru_bl, noEx_j, isi_list, isi_int, isi_bool, q_ll, q_llb, lenOk_of, b_add, b_sub, b_mul, b_div, b_mod, b_pow, mulOk_r, mulOk_l, divOk_of, c_lt, c_le, c_gt, c_ge, c_eq, c_ne, c_in, c_ni, dIn_dic, x_lst, x_scr, x_dic, l_lst, l_scr, l_abs, l_int, l_list, l_tup, l_sorted, l_sortedk, i_int, q_lst, q_lstp, q_b, q_bp, q_tup, q_tupp, a_app, a_put, t_0, t_s, rng_of, li_zz, li_bb, li_clean, li_z, pr_zz, pr_bb, pr_clean, pr_z, ll_zz, ll_bb, ll_cleanO, ll_cleanZ, ll_z, clean, isZ, isZs, cleans, zzs, bbs, Fl.bb, dIn_li, dEq_li, dEq_pr, dEq_ll, dEq_int, taint, taints, li_taint, pr_taint, ll_taint, Fl.tt, li_len, pr_len, ll_len, EV.keyOf, List.map_cons, List.map_nil, List.length_cons, List.length_nil, List.set_cons_zero, List.set_cons_succ, Option.map_some]
    exact ⟨L, rfl, by rw [hl, range_len]; omega⟩
theorem pick_wp (L : List Int) (k m : Int) : Wp (F2.sem [.lst .z (li L), .int k, .int m]) fun d => ∃ r, d = .int r ∧ 0 ≤ r ∧ (r < m ∨ r = 0) := by
  simp [F2, runF, dr2, evSs, evS, evE, evEs, evP, evO, evTo, evT, evAnd, evOr, evTA, evTO, evIt, evB, wp_bind, wp_nx, wp_if, wp_ok, wp_st, ok_bind, ok_nx, ok_rt, EV.R.of_some, rof_if, nxQ_nx, nxQ_rt, wp_noEx, g_0, g_s, s_0, s_s, s_t2, bb, zz, tru_bl, noEx_j, isi_list, isi_int, isi_bool, q_ll, q_llb, lenOk_of, b_add, b_sub, b_mul, b_div, b_mod, b_pow, mulOk_r, mulOk_l, divOk_of, c_lt, c_le, c_gt, c_ge, c_eq, c_ne, c_in, c_ni, dIn_dic, x_lst, x_scr, x_dic, l_lst, l_scr, l_abs, l_int, l_list, l_tup, l_sorted, l_sortedk, i_int, q_lst, q_lstp, q_b, q_bp, q_tup, q_tupp, a_app, a_put, t_0, t_s, rng_of, li_zz, li_bb, li_clean, li_z, pr_zz, pr_bb, pr_clean, pr_z, ll_zz, ll_bb, ll_cleanO, ll_cleanZ, ll_z, clean, isZ, isZs, cleans, zzs, bbs, Fl.bb, dIn_li, dEq_li, dEq_pr, dEq_ll, dEq_int, taint, taints, li_taint, pr_taint, ll_taint, Fl.tt, li_len, pr_len, ll_len, EV.keyOf, List.map_cons, List.map_nil, List.length_cons, List.length_nil, List.set_cons_zero, List.set_cons_succ, Option.map_some]
  intro hm hL
  have h : 0 < L.length := List.length_pos_iff.mpr hL
  obtain ⟨x, hx, e⟩ := atI_li (L := L) (i := k % (L.length : Int)) (Int.emod_nonneg _ (by omega)) (Int.emod_lt_of_pos _ (by omega))
  simp [h, hL, e, evSs, evS, evE, evEs, evP, evO, evTo, evT, evAnd, evOr, evTA, evTO, evIt, evB, wp_bind, wp_nx, wp_if, wp_ok, wp_st, ok_bind, ok_nx, ok_rt, EV.R.of_some, rof_if, nxQ_nx, nxQ_rt, wp_noEx, g_0, g_s, s_0, s_s, s_t2, bb, zz, tru_bl, noEx_j, isi_list, isi_int, isi_bool, q_ll, q_llb, lenOk_of, b_add, b_sub, b_mul, b_div, b_mod, b_pow, mulOk_r, mulOk_l, divOk_of, c_lt, c_le, c_gt, c_ge, c_eq, c_ne, c_in, c_ni, dIn_dic, x_lst, x_scr, x_dic, l_lst, l_scr, l_abs, l_int, l_list, l_tup, l_sorted, l_sortedk, i_int, q_lst, q_lstp, q_b, q_bp, q_tup, q_tupp, a_app, a_put, t_0, t_s, rng_of, li_zz, li_bb, li_clean, li_z, pr_zz, pr_bb, pr_clean, pr_z, ll_zz, ll_bb, ll_cleanO, ll_cleanZ, ll_z, clean, isZ, isZs, cleans, zzs, bbs, Fl.bb, dIn_li, dEq_li, dEq_pr, dEq_ll, dEq_int, taint, taints, li_taint, pr_taint, ll_taint, Fl.tt, li_len, pr_len, ll_len, EV.keyOf, List.map_cons, List.map_nil, List.length_cons, List.length_nil, List.set_cons_zero, List.set_cons_succ, Option.map_some]
  have h2 : 0 < m := by omega
  have h3 : 0 ≤ x % m := Int.emod_nonneg _ (by omega)
  have h4 : x % m < m := Int.emod_lt_of_pos _ h2
  simp [h2, h3, h4, evSs, evS, evE, evEs, evP, evO, evTo, evT, evAnd, evOr, evTA, evTO, evIt, evB, wp_bind, wp_nx, wp_if, wp_ok, wp_st, ok_bind, ok_nx, ok_rt, EV.R.of_some, rof_if, nxQ_nx, nxQ_rt, wp_noEx, g_0, g_s, s_0, s_s, s_t2, bb, zz, tru_bl, noEx_j, isi_list, isi_int, isi_bool, q_ll, q_llb, lenOk_of, b_add, b_sub, b_mul, b_div, b_mod, b_pow, mulOk_r, mulOk_l, divOk_of, c_lt, c_le, c_gt, c_ge, c_eq, c_ne, c_in, c_ni, dIn_dic, x_lst, x_scr, x_dic, l_lst, l_scr, l_abs, l_int, l_list, l_tup, l_sorted, l_sortedk, i_int, q_lst, q_lstp, q_b, q_bp, q_tup, q_tupp, a_app, a_put, t_0, t_s, rng_of, li_zz, li_bb, li_clean, li_z, pr_zz, pr_bb, pr_clean, pr_z, ll_zz, ll_bb, ll_cleanO, ll_cleanZ, ll_z, clean, isZ, isZs, cleans, zzs, bbs, Fl.bb, dIn_li, dEq_li, dEq_pr, dEq_ll, dEq_int, taint, taints, li_taint, pr_taint, ll_taint, Fl.tt, li_len, pr_len, ll_len, EV.keyOf, List.map_cons, List.map_nil, List.length_cons, List.length_nil, List.set_cons_zero, List.set_cons_succ, Option.map_some]
noncomputable def pk (L : List Int) (k m : Int) : Int := match F2.sem [.lst .z (li L), .int k, .int m] with
  | .ok (.int r) => r
  | _ => 0
theorem pick_all (L : List Int) (k m : Int) : F2.sem [.lst .z (li L), .int k, .int m] = .ok (.int (pk L k m)) ∧ 0 ≤ pk L k m ∧ (pk L k m < m ∨ pk L k m = 0) := by
  obtain ⟨d, e, r, rfl, h⟩ := pick_wp L k m
  have : pk L k m = r := by unfold pk; rw [e]
  rw [this]
  exact ⟨e, h⟩
theorem pk0 (L : List Int) (k m : Int) : 0 ≤ pk L k m := (pick_all L k m).2.1
theorem pk1 (L : List Int) (k m : Int) : pk L k m < m ∨ pk L k m = 0 := (pick_all L k m).2.2
theorem pick_call (f : Fl) (L : List Int) (k m : Int) : callD F2 [.lst f (li L), .int k, .int m] = .ok (.int (pk L k m)) :=
  callD_v rfl (by simp only [zzs, zz, li_zz]; exact (pick_all L k m).1) (.inr (by simp [backD, taint, taintL]))
/-! statement by statement -/
theorem step {Φ : Tab} {s : EV.S} {ss : Ss} {env env' : EV.Env} {Q : Out → Prop} (h : evS Φ s env = .ok (.nx env')) (k : Wp (evSs Φ ss env') Q) : Wp (evSs Φ (.cons s ss) env) Q := by
  rw [evSs, h, ok_nx]; exact k
theorem step_no {Φ : Tab} {t : EV.T} {a ss : Ss} {env : EV.Env} {Q : Out → Prop} (h : evT Φ t env = .ok false) (k : Wp (evSs Φ ss env) Q) : Wp (evSs Φ (.cons (.ife t a .nil) ss) env) Q := by
  refine step ?_ k
  rw [evS, h, ok_bind]; rfl
theorem step_yes {Φ : Tab} {t : EV.T} {a b ss : Ss} {env : EV.Env} {Q : Out → Prop} (h : evT Φ t env = .ok true) (k : Wp (evSs Φ a env) (nxQ (evSs Φ ss) Q)) : Wp (evSs Φ (.cons (.ife t a b) ss) env) Q := by
  rw [evSs, wp_nx, evS, h, ok_bind]; exact k
theorem step_ret {Φ : Tab} {e : C} {ss : Ss} {env : EV.Env} {d : D} {Q : Out → Prop} (h : evE Φ e env = .ok d) (k : Q (.rt d)) : Wp (evSs Φ (.cons (.ret e) ss) env) Q := by
  rw [evSs, wp_nx, evS, h, ok_bind]; exact ⟨_, rfl, k⟩
theorem run_eq {Φ : Tab} {n : Nat} {b : Ss} {ds : List D} {v : D} (h : Wp (evSs Φ b (ds.map some ++ List.replicate (n - ds.length) none)) fun o => o = .rt v) : runF Φ n b ds = .ok v := by
  obtain ⟨o, e, rfl⟩ := h
  unfold runF
  rw [e]; rfl
theorem run_wp {Φ : Tab} {n : Nat} {b : Ss} {ds : List D} {P : D → Prop} (h : Wp (evSs Φ b (ds.map some ++ List.replicate (n - ds.length) none)) fun o => ∃ d, o = .rt d ∧ P d) : Wp (runF Φ n b ds) P := by
  obtain ⟨o, e, d, rfl, h⟩ := h
  unfold runF
  rw [e]; exact ⟨d, rfl, h⟩
theorem ofor {Φ : Tab} {it : EV.It} {tg : Tg} {b ss : Ss} {env : EV.Env} {ds : List D} {Q : Out → Prop} (h : evIt Φ it false env = .ok ds) (k : Wp (forL (fun d env => (setTg tg d env).bind fun env' => evSs Φ b env') ds env) (nxQ (evSs Φ ss) Q)) : Wp (evSs Φ (.cons (.fr it tg b) ss) env) Q := by
  rw [evSs, wp_nx, evS, h, ok_bind]; exact k
theorem otg {t : Tg} {d : D} {env env' : EV.Env} {f : EV.Env → EV.R Out} {Q : Out → Prop} (h : setTg t d env = .ok env') (k : Wp (f env') Q) : Wp ((setTg t d env).bind f) Q := by rw [h, ok_bind]; exact k
/-! ties -/
abbrev Tie := Int × Int × Int × Int
def qdD (t : Tie) : D := .tup [.int t.1, .int t.2.1, .int t.2.2.1, .int t.2.2.2]
def qd (T : List Tie) : List D := T.map qdD
theorem qd_len {L : List Tie} : (qd L).length = L.length := List.length_map ..
theorem qd_app {L : List Tie} {x : Tie} : qd L ++ [qdD x] = qd (L ++ [x]) := by simp [qd]
theorem qd_zz : ∀ L : List Tie, zzs (qd L) = qd L
  | [] => rfl | x :: L => congrArg (qdD x :: ·) (qd_zz L)
theorem qd_bb : ∀ L : List Tie, bbs (qd L) = qd L
  | [] => rfl | x :: L => congrArg (qdD x :: ·) (qd_bb L)
theorem qd_clean : ∀ L : List Tie, cleans (qd L) = true
  | [] => rfl | x :: L => qd_clean L
theorem qd_z : ∀ L : List Tie, isZs (qd L) = true
  | [] => rfl | x :: L => qd_z L
theorem qd_get {L : List Tie} {i : Nat} : (qd L)[i]? = (L[i]?).map qdD := List.getElem?_map ..
theorem qd_some {T : List Tie} {i : Nat} {d : D} (h : (qd T)[i]? = some d) : ∃ t, T[i]? = some t ∧ d = qdD t := by
  rw [qd_get] at h
  cases e : T[i]? with
  | none => rw [e] at h; cases h
  | some t => rw [e] at h; cases h; exact ⟨t, rfl, rfl⟩
def sd (S : List Int) (p : Int) : Int := S.getD p.toNat 0
def TieOk (S : List Int) (t : Tie) : Prop := 0 ≤ t.1 ∧ t.1 < S.length ∧ 0 ≤ t.2.1 ∧ t.2.1 < sd S t.1 ∧ 0 ≤ t.2.2.1 ∧ t.2.2.1 < S.length ∧ 0 ≤ t.2.2.2 ∧ t.2.2.2 < sd S t.2.2.1
structure WebOk (S : List Int) (T : List Tie) : Prop where
  s : ∀ x ∈ S, 1 ≤ x ∧ x ≤ 4
  t : ∀ t ∈ T, TieOk S t
theorem atI_sd {S : List Int} {p : Int} (h0 : 0 ≤ p) (h1 : p < S.length) : atI (li S) p = some (.int (sd S p)) := by
  have h2 : p < ((li S).length : Int) := by rw [li_len]; exact h1
  have h3 : p.toNat < S.length := by omega
  rw [atI_ok h0 h2]
  simp [li, sd, h3]
theorem sd_mem {S : List Int} {p : Int} (h0 : 0 ≤ p) (h1 : p < S.length) : sd S p ∈ S := by
  have h3 : p.toNat < S.length := by omega
  simp [sd, h3]
end K08
namespace K08
open PySem L2 EV
noncomputable def mnu (L : List Int) (k : Nat) : Int := [2, 2, 3, 2, 1, 4].getD (pk L (2 + (k : Int)) 6).toNat 0
noncomputable def sds (L : List Int) (n : Int) : List Int := (List.range n.toNat).map (mnu L)
theorem menu_at {j : Int} (h0 : 0 ≤ j) (h1 : j < 6) : atI [D.int 2, .int 2, .int 3, .int 2, .int 1, .int 4] j = some (.int ([2, 2, 3, 2, 1, 4].getD j.toNat 0)) ∧ 1 ≤ [2, 2, 3, 2, 1, 4].getD j.toNat (0 : Int) ∧ [2, 2, 3, 2, 1, 4].getD j.toNat (0 : Int) ≤ 4 := by
  have : j = 0 ∨ j = 1 ∨ j = 2 ∨ j = 3 ∨ j = 4 ∨ j = 5 := by omega
  rcases this with rfl | rfl | rfl | rfl | rfl | rfl <;> exact ⟨rfl, by decide, by decide⟩
theorem comp3 {L : List Int} {a b n : Int} (h0 : 0 ≤ n) (h1 : n ≤ 1000000) : evE T3 (.comp (.r1 (.slot 4)) (.name 7) [7] .none (.ix (.slot 3) (.call 2 (.cons (.slot 0) (.cons (.bin .add (.int 2) (.slot 7)) (.cons (.int 6) .nil)))))) [some (.lst .z (li L)), some (.int a), some (.int b), some (.lst .z [.int 2, .int 2, .int 3, .int 2, .int 1, .int 4]), some (.int n), none, none, none, none, none, none, none] = .ok (.lst .o (li (sds L n))) := by
  have e : li (sds L n) = (List.range n.toNat).map fun i : Nat => D.int (mnu L i) := by simp [li, sds, List.map_map, Function.comp_def]
  have hr : rngOk n = true := rng_of (by omega) (by omega)
  rw [e]
  refine comp_map (List.range n.toNat) (fun i => .int (0 + i)) _ ?_ rfl (fun t _ => ?_) (fun t _ => rfl) (by rw [List.length_range]; show n.toNat ≤ 16777216; omega)
  · simp [evSs, evS, evE.eq_1, evE.eq_2, evE.eq_3, evE.eq_4, evE.eq_5, evE.eq_6, evE.eq_7, evE.eq_8, evE.eq_9, evE.eq_10, evE.eq_11, evE.eq_12, evE.eq_13, evE.eq_14, evE.eq_15, evE.eq_16, evE.eq_17, evE.eq_18, evE.eq_19, evE.eq_20, evE.eq_21, evE.eq_22, evE.eq_23, evE.eq_24, evE.eq_28, evE.eq_30, evE.eq_31, evE.eq_32, evE.eq_33, evE.eq_34, evE.eq_35, evE.eq_36, evE.eq_37, evE.eq_38, evE.eq_39, evE.eq_40, evE.eq_41, evEs, evP, evO, evTo, evT, evAnd, evOr, evTA, evTO, evIt, evB, wp_bind, wp_nx, wp_if, wp_ok, wp_st, ok_bind, ok_nx, ok_rt, EV.R.of_some, rof_if, nxQ_nx, nxQ_rt, wp_noEx, g_0, g_s, s_0, s_s, s_t2, bb, zz, tru_bl, noEx_j, isi_list, isi_int, isi_bool, q_ll, q_llb, lenOk_of, b_add, b_sub, b_mul, b_div, b_mod, b_pow, mulOk_r, mulOk_l, divOk_of, c_lt, c_le, c_gt, c_ge, c_eq, c_ne, c_in, c_ni, dIn_dic, x_lst, x_scr, x_dic, l_lst, l_scr, l_abs, l_int, l_list, l_tup, l_sorted, l_sortedk, i_int, q_lst, q_lstp, q_b, q_bp, q_tup, q_tupp, a_app, a_put, t_0, t_s, rng_of, li_zz, li_bb, li_clean, li_z, pr_zz, pr_bb, pr_clean, pr_z, ll_zz, ll_bb, ll_cleanO, ll_cleanZ, ll_z, clean, isZ, isZs, cleans, zzs, bbs, Fl.bb, dIn_li, dEq_li, dEq_pr, dEq_ll, dEq_int, taint, taints, li_taint, pr_taint, ll_taint, Fl.tt, li_len, pr_len, ll_len, EV.keyOf, List.map_cons, List.map_nil, List.length_cons, List.length_nil, List.set_cons_zero, List.set_cons_succ, Option.map_some, hr, rangeD]
  · have p0 := pk0 L (2 + (t : Int)) 6
    have p1 := pk1 L (2 + (t : Int)) 6
    obtain ⟨m1, _, _⟩ := menu_at p0 (by omega)
    simp [wipeE, evSs, evS, evE.eq_1, evE.eq_2, evE.eq_3, evE.eq_4, evE.eq_5, evE.eq_6, evE.eq_7, evE.eq_8, evE.eq_9, evE.eq_10, evE.eq_11, evE.eq_12, evE.eq_13, evE.eq_14, evE.eq_15, evE.eq_16, evE.eq_17, evE.eq_18, evE.eq_19, evE.eq_20, evE.eq_21, evE.eq_22, evE.eq_23, evE.eq_24, evE.eq_28, evE.eq_30, evE.eq_31, evE.eq_32, evE.eq_33, evE.eq_34, evE.eq_35, evE.eq_36, evE.eq_37, evE.eq_38, evE.eq_39, evE.eq_40, evE.eq_41, evEs, evP, evO, evTo, evT, evAnd, evOr, evTA, evTO, evIt, evB, wp_bind, wp_nx, wp_if, wp_ok, wp_st, ok_bind, ok_nx, ok_rt, EV.R.of_some, rof_if, nxQ_nx, nxQ_rt, wp_noEx, g_0, g_s, s_0, s_s, s_t2, bb, zz, tru_bl, noEx_j, isi_list, isi_int, isi_bool, q_ll, q_llb, lenOk_of, b_add, b_sub, b_mul, b_div, b_mod, b_pow, mulOk_r, mulOk_l, divOk_of, c_lt, c_le, c_gt, c_ge, c_eq, c_ne, c_in, c_ni, dIn_dic, x_lst, x_scr, x_dic, l_lst, l_scr, l_abs, l_int, l_list, l_tup, l_sorted, l_sortedk, i_int, q_lst, q_lstp, q_b, q_bp, q_tup, q_tupp, a_app, a_put, t_0, t_s, rng_of, li_zz, li_bb, li_clean, li_z, pr_zz, pr_bb, pr_clean, pr_z, ll_zz, ll_bb, ll_cleanO, ll_cleanZ, ll_z, clean, isZ, isZs, cleans, zzs, bbs, Fl.bb, dIn_li, dEq_li, dEq_pr, dEq_ll, dEq_int, taint, taints, li_taint, pr_taint, ll_taint, Fl.tt, li_len, pr_len, ll_len, EV.keyOf, List.map_cons, List.map_nil, List.length_cons, List.length_nil, List.set_cons_zero, List.set_cons_succ, Option.map_some, t3_2, pick_call, m1, mnu, Fl.bb, bbs]
theorem sds_ok {L : List Int} {n : Int} : ∀ x ∈ sds L n, 1 ≤ x ∧ x ≤ 4 := fun x hx => by
  obtain ⟨k, _, rfl⟩ := List.mem_map.mp hx
  have p0 := pk0 L (2 + (k : Int)) 6
  have p1 := pk1 L (2 + (k : Int)) 6
  exact (menu_at p0 (by omega)).2
theorem sds_len {L : List Int} {n : Int} : (sds L n).length = n.toNat := by simp [sds]
def I3 (L : List Int) (a b n : Int) (S : List Int) (i : Nat) (e : EV.Env) : Prop := ∃ (T : List Tie) (v7 v8 v9 v10 v11 : Option D), e = [some (.lst .z (li L)), some (.int a), some (.int b), some (.lst .z [.int 2, .int 2, .int 3, .int 2, .int 1, .int 4]), some (.int n), some (.lst .z (li S)), some (.lst .o (qd T)), v7, v8, v9, v10, v11] ∧ T.length ≤ i ∧ WebOk S T
theorem web_ok (L : List Int) (a b : Int) (ha : 0 ≤ a) (ha2 : a ≤ 1000) (hb : 0 ≤ b) (hb2 : b ≤ 1000) : Wp (F3.sem [.lst .z (li L), .int a, .int b]) fun d => ∃ S T, d = .tup [.lst .z (li S), .lst .z (qd T)] ∧ (S.length : Int) ≤ a ∧ (T.length : Int) ≤ b ∧ WebOk S T := by
  have p0 := pk0 L 0 (a + 1)
  have p1 := pk1 L 0 (a + 1)
  have q0 := pk0 L 1 (b + 1)
  have q1 := pk1 L 1 (b + 1)
  refine run_wp ?_
  show Wp (evSs T3 dr3.body [some (.lst .z (li L)), some (.int a), some (.int b), none, none, none, none, none, none, none, none, none]) _
  unfold dr3
  refine step (by simp [evSs, evS, evE.eq_1, evE.eq_2, evE.eq_3, evE.eq_4, evE.eq_5, evE.eq_6, evE.eq_7, evE.eq_8, evE.eq_9, evE.eq_10, evE.eq_11, evE.eq_12, evE.eq_13, evE.eq_14, evE.eq_15, evE.eq_16, evE.eq_17, evE.eq_18, evE.eq_19, evE.eq_20, evE.eq_21, evE.eq_22, evE.eq_23, evE.eq_24, evE.eq_28, evE.eq_30, evE.eq_31, evE.eq_32, evE.eq_33, evE.eq_34, evE.eq_35, evE.eq_36, evE.eq_37, evE.eq_38, evE.eq_39, evE.eq_40, evE.eq_41, evEs, evP, evO, evTo, evT, evAnd, evOr, evTA, evTO, evIt, evB, wp_bind, wp_nx, wp_if, wp_ok, wp_st, ok_bind, ok_nx, ok_rt, EV.R.of_some, rof_if, nxQ_nx, nxQ_rt, wp_noEx, g_0, g_s, s_0, s_s, s_t2, bb, zz, tru_bl, noEx_j, isi_list, isi_int, isi_bool, q_ll, q_llb, lenOk_of, b_add, b_sub, b_mul, b_div, b_mod, b_pow, mulOk_r, mulOk_l, divOk_of, c_lt, c_le, c_gt, c_ge, c_eq, c_ne, c_in, c_ni, dIn_dic, x_lst, x_scr, x_dic, l_lst, l_scr, l_abs, l_int, l_list, l_tup, l_sorted, l_sortedk, i_int, q_lst, q_lstp, q_b, q_bp, q_tup, q_tupp, a_app, a_put, t_0, t_s, rng_of, li_zz, li_bb, li_clean, li_z, pr_zz, pr_bb, pr_clean, pr_z, ll_zz, ll_bb, ll_cleanO, ll_cleanZ, ll_z, clean, isZ, isZs, cleans, zzs, bbs, Fl.bb, dIn_li, dEq_li, dEq_pr, dEq_ll, dEq_int, taint, taints, li_taint, pr_taint, ll_taint, Fl.tt, li_len, pr_len, ll_len, EV.keyOf, List.map_cons, List.map_nil, List.length_cons, List.length_nil, List.set_cons_zero, List.set_cons_succ, Option.map_some] <;> rfl) ?_
  refine step (by simp [evSs, evS, evE.eq_1, evE.eq_2, evE.eq_3, evE.eq_4, evE.eq_5, evE.eq_6, evE.eq_7, evE.eq_8, evE.eq_9, evE.eq_10, evE.eq_11, evE.eq_12, evE.eq_13, evE.eq_14, evE.eq_15, evE.eq_16, evE.eq_17, evE.eq_18, evE.eq_19, evE.eq_20, evE.eq_21, evE.eq_22, evE.eq_23, evE.eq_24, evE.eq_28, evE.eq_30, evE.eq_31, evE.eq_32, evE.eq_33, evE.eq_34, evE.eq_35, evE.eq_36, evE.eq_37, evE.eq_38, evE.eq_39, evE.eq_40, evE.eq_41, evEs, evP, evO, evTo, evT, evAnd, evOr, evTA, evTO, evIt, evB, wp_bind, wp_nx, wp_if, wp_ok, wp_st, ok_bind, ok_nx, ok_rt, EV.R.of_some, rof_if, nxQ_nx, nxQ_rt, wp_noEx, g_0, g_s, s_0, s_s, s_t2, bb, zz, tru_bl, noEx_j, isi_list, isi_int, isi_bool, q_ll, q_llb, lenOk_of, b_add, b_sub, b_mul, b_div, b_mod, b_pow, mulOk_r, mulOk_l, divOk_of, c_lt, c_le, c_gt, c_ge, c_eq, c_ne, c_in, c_ni, dIn_dic, x_lst, x_scr, x_dic, l_lst, l_scr, l_abs, l_int, l_list, l_tup, l_sorted, l_sortedk, i_int, q_lst, q_lstp, q_b, q_bp, q_tup, q_tupp, a_app, a_put, t_0, t_s, rng_of, li_zz, li_bb, li_clean, li_z, pr_zz, pr_bb, pr_clean, pr_z, ll_zz, ll_bb, ll_cleanO, ll_cleanZ, ll_z, clean, isZ, isZs, cleans, zzs, bbs, Fl.bb, dIn_li, dEq_li, dEq_pr, dEq_ll, dEq_int, taint, taints, li_taint, pr_taint, ll_taint, Fl.tt, li_len, pr_len, ll_len, EV.keyOf, List.map_cons, List.map_nil, List.length_cons, List.length_nil, List.set_cons_zero, List.set_cons_succ, Option.map_some] <;> rfl) ?_
  refine step (by simp [evSs, evS, evE.eq_1, evE.eq_2, evE.eq_3, evE.eq_4, evE.eq_5, evE.eq_6, evE.eq_7, evE.eq_8, evE.eq_9, evE.eq_10, evE.eq_11, evE.eq_12, evE.eq_13, evE.eq_14, evE.eq_15, evE.eq_16, evE.eq_17, evE.eq_18, evE.eq_19, evE.eq_20, evE.eq_21, evE.eq_22, evE.eq_23, evE.eq_24, evE.eq_28, evE.eq_30, evE.eq_31, evE.eq_32, evE.eq_33, evE.eq_34, evE.eq_35, evE.eq_36, evE.eq_37, evE.eq_38, evE.eq_39, evE.eq_40, evE.eq_41, evEs, evP, evO, evTo, evT, evAnd, evOr, evTA, evTO, evIt, evB, wp_bind, wp_nx, wp_if, wp_ok, wp_st, ok_bind, ok_nx, ok_rt, EV.R.of_some, rof_if, nxQ_nx, nxQ_rt, wp_noEx, g_0, g_s, s_0, s_s, s_t2, bb, zz, tru_bl, noEx_j, isi_list, isi_int, isi_bool, q_ll, q_llb, lenOk_of, b_add, b_sub, b_mul, b_div, b_mod, b_pow, mulOk_r, mulOk_l, divOk_of, c_lt, c_le, c_gt, c_ge, c_eq, c_ne, c_in, c_ni, dIn_dic, x_lst, x_scr, x_dic, l_lst, l_scr, l_abs, l_int, l_list, l_tup, l_sorted, l_sortedk, i_int, q_lst, q_lstp, q_b, q_bp, q_tup, q_tupp, a_app, a_put, t_0, t_s, rng_of, li_zz, li_bb, li_clean, li_z, pr_zz, pr_bb, pr_clean, pr_z, ll_zz, ll_bb, ll_cleanO, ll_cleanZ, ll_z, clean, isZ, isZs, cleans, zzs, bbs, Fl.bb, dIn_li, dEq_li, dEq_pr, dEq_ll, dEq_int, taint, taints, li_taint, pr_taint, ll_taint, Fl.tt, li_len, pr_len, ll_len, EV.keyOf, List.map_cons, List.map_nil, List.length_cons, List.length_nil, List.set_cons_zero, List.set_cons_succ, Option.map_some, t3_2, pick_call] <;> rfl) ?_
  refine step (by simp [evSs, evS, evE.eq_1, evE.eq_2, evE.eq_3, evE.eq_4, evE.eq_5, evE.eq_6, evE.eq_7, evE.eq_8, evE.eq_9, evE.eq_10, evE.eq_11, evE.eq_12, evE.eq_13, evE.eq_14, evE.eq_15, evE.eq_16, evE.eq_17, evE.eq_18, evE.eq_19, evE.eq_20, evE.eq_21, evE.eq_22, evE.eq_23, evE.eq_24, evE.eq_28, evE.eq_30, evE.eq_31, evE.eq_32, evE.eq_33, evE.eq_34, evE.eq_35, evE.eq_36, evE.eq_37, evE.eq_38, evE.eq_39, evE.eq_40, evE.eq_41, evEs, evP, evO, evTo, evT, evAnd, evOr, evTA, evTO, evIt, evB, wp_bind, wp_nx, wp_if, wp_ok, wp_st, ok_bind, ok_nx, ok_rt, EV.R.of_some, rof_if, nxQ_nx, nxQ_rt, wp_noEx, g_0, g_s, s_0, s_s, s_t2, bb, zz, tru_bl, noEx_j, isi_list, isi_int, isi_bool, q_ll, q_llb, lenOk_of, b_add, b_sub, b_mul, b_div, b_mod, b_pow, mulOk_r, mulOk_l, divOk_of, c_lt, c_le, c_gt, c_ge, c_eq, c_ne, c_in, c_ni, dIn_dic, x_lst, x_scr, x_dic, l_lst, l_scr, l_abs, l_int, l_list, l_tup, l_sorted, l_sortedk, i_int, q_lst, q_lstp, q_b, q_bp, q_tup, q_tupp, a_app, a_put, t_0, t_s, rng_of, li_zz, li_bb, li_clean, li_z, pr_zz, pr_bb, pr_clean, pr_z, ll_zz, ll_bb, ll_cleanO, ll_cleanZ, ll_z, clean, isZ, isZs, cleans, zzs, bbs, Fl.bb, dIn_li, dEq_li, dEq_pr, dEq_ll, dEq_int, taint, taints, li_taint, pr_taint, ll_taint, Fl.tt, li_len, pr_len, ll_len, EV.keyOf, List.map_cons, List.map_nil, List.length_cons, List.length_nil, List.set_cons_zero, List.set_cons_succ, Option.map_some] <;> rfl) ?_
  revert p0 p1
  generalize pk L 0 (a + 1) = n
  intro p0 p1
  refine step (by simp [evSs, evS, evE.eq_1, evE.eq_2, evE.eq_3, evE.eq_4, evE.eq_5, evE.eq_6, evE.eq_7, evE.eq_8, evE.eq_9, evE.eq_10, evE.eq_11, evE.eq_12, evE.eq_13, evE.eq_14, evE.eq_15, evE.eq_16, evE.eq_17, evE.eq_18, evE.eq_19, evE.eq_20, evE.eq_21, evE.eq_22, evE.eq_23, evE.eq_24, evE.eq_28, evE.eq_30, evE.eq_31, evE.eq_32, evE.eq_33, evE.eq_34, evE.eq_35, evE.eq_36, evE.eq_37, evE.eq_38, evE.eq_39, evE.eq_40, evE.eq_41, evEs, evP, evO, evTo, evT, evAnd, evOr, evTA, evTO, evIt, evB, wp_bind, wp_nx, wp_if, wp_ok, wp_st, ok_bind, ok_nx, ok_rt, EV.R.of_some, rof_if, nxQ_nx, nxQ_rt, wp_noEx, g_0, g_s, s_0, s_s, s_t2, bb, zz, tru_bl, noEx_j, isi_list, isi_int, isi_bool, q_ll, q_llb, lenOk_of, b_add, b_sub, b_mul, b_div, b_mod, b_pow, mulOk_r, mulOk_l, divOk_of, c_lt, c_le, c_gt, c_ge, c_eq, c_ne, c_in, c_ni, dIn_dic, x_lst, x_scr, x_dic, l_lst, l_scr, l_abs, l_int, l_list, l_tup, l_sorted, l_sortedk, i_int, q_lst, q_lstp, q_b, q_bp, q_tup, q_tupp, a_app, a_put, t_0, t_s, rng_of, li_zz, li_bb, li_clean, li_z, pr_zz, pr_bb, pr_clean, pr_z, ll_zz, ll_bb, ll_cleanO, ll_cleanZ, ll_z, clean, isZ, isZs, cleans, zzs, bbs, Fl.bb, dIn_li, dEq_li, dEq_pr, dEq_ll, dEq_int, taint, taints, li_taint, pr_taint, ll_taint, Fl.tt, li_len, pr_len, ll_len, EV.keyOf, List.map_cons, List.map_nil, List.length_cons, List.length_nil, List.set_cons_zero, List.set_cons_succ, Option.map_some, comp3 p0 (show n ≤ 1000000 by omega)] <;> rfl) ?_
  refine step (by simp [evSs, evS, evE.eq_1, evE.eq_2, evE.eq_3, evE.eq_4, evE.eq_5, evE.eq_6, evE.eq_7, evE.eq_8, evE.eq_9, evE.eq_10, evE.eq_11, evE.eq_12, evE.eq_13, evE.eq_14, evE.eq_15, evE.eq_16, evE.eq_17, evE.eq_18, evE.eq_19, evE.eq_20, evE.eq_21, evE.eq_22, evE.eq_23, evE.eq_24, evE.eq_28, evE.eq_30, evE.eq_31, evE.eq_32, evE.eq_33, evE.eq_34, evE.eq_35, evE.eq_36, evE.eq_37, evE.eq_38, evE.eq_39, evE.eq_40, evE.eq_41, evEs, evP, evO, evTo, evT, evAnd, evOr, evTA, evTO, evIt, evB, wp_bind, wp_nx, wp_if, wp_ok, wp_st, ok_bind, ok_nx, ok_rt, EV.R.of_some, rof_if, nxQ_nx, nxQ_rt, wp_noEx, g_0, g_s, s_0, s_s, s_t2, bb, zz, tru_bl, noEx_j, isi_list, isi_int, isi_bool, q_ll, q_llb, lenOk_of, b_add, b_sub, b_mul, b_div, b_mod, b_pow, mulOk_r, mulOk_l, divOk_of, c_lt, c_le, c_gt, c_ge, c_eq, c_ne, c_in, c_ni, dIn_dic, x_lst, x_scr, x_dic, l_lst, l_scr, l_abs, l_int, l_list, l_tup, l_sorted, l_sortedk, i_int, q_lst, q_lstp, q_b, q_bp, q_tup, q_tupp, a_app, a_put, t_0, t_s, rng_of, li_zz, li_bb, li_clean, li_z, pr_zz, pr_bb, pr_clean, pr_z, ll_zz, ll_bb, ll_cleanO, ll_cleanZ, ll_z, clean, isZ, isZs, cleans, zzs, bbs, Fl.bb, dIn_li, dEq_li, dEq_pr, dEq_ll, dEq_int, taint, taints, li_taint, pr_taint, ll_taint, Fl.tt, li_len, pr_len, ll_len, EV.keyOf, List.map_cons, List.map_nil, List.length_cons, List.length_nil, List.set_cons_zero, List.set_cons_succ, Option.map_some] <;> rfl) ?_
  refine step (by simp [evSs, evS, evE.eq_1, evE.eq_2, evE.eq_3, evE.eq_4, evE.eq_5, evE.eq_6, evE.eq_7, evE.eq_8, evE.eq_9, evE.eq_10, evE.eq_11, evE.eq_12, evE.eq_13, evE.eq_14, evE.eq_15, evE.eq_16, evE.eq_17, evE.eq_18, evE.eq_19, evE.eq_20, evE.eq_21, evE.eq_22, evE.eq_23, evE.eq_24, evE.eq_28, evE.eq_30, evE.eq_31, evE.eq_32, evE.eq_33, evE.eq_34, evE.eq_35, evE.eq_36, evE.eq_37, evE.eq_38, evE.eq_39, evE.eq_40, evE.eq_41, evEs, evP, evO, evTo, evT, evAnd, evOr, evTA, evTO, evIt, evB, wp_bind, wp_nx, wp_if, wp_ok, wp_st, ok_bind, ok_nx, ok_rt, EV.R.of_some, rof_if, nxQ_nx, nxQ_rt, wp_noEx, g_0, g_s, s_0, s_s, s_t2, bb, zz, tru_bl, noEx_j, isi_list, isi_int, isi_bool, q_ll, q_llb, lenOk_of, b_add, b_sub, b_mul, b_div, b_mod, b_pow, mulOk_r, mulOk_l, divOk_of, c_lt, c_le, c_gt, c_ge, c_eq, c_ne, c_in, c_ni, dIn_dic, x_lst, x_scr, x_dic, l_lst, l_scr, l_abs, l_int, l_list, l_tup, l_sorted, l_sortedk, i_int, q_lst, q_lstp, q_b, q_bp, q_tup, q_tupp, a_app, a_put, t_0, t_s, rng_of, li_zz, li_bb, li_clean, li_z, pr_zz, pr_bb, pr_clean, pr_z, ll_zz, ll_bb, ll_cleanO, ll_cleanZ, ll_z, clean, isZ, isZs, cleans, zzs, bbs, Fl.bb, dIn_li, dEq_li, dEq_pr, dEq_ll, dEq_int, taint, taints, li_taint, pr_taint, ll_taint, Fl.tt, li_len, pr_len, ll_len, EV.keyOf, List.map_cons, List.map_nil, List.length_cons, List.length_nil, List.set_cons_zero, List.set_cons_succ, Option.map_some] <;> rfl) ?_
  have hS := sds_ok (L := L) (n := n)
  have lS := sds_len (L := L) (n := n)
  revert hS lS
  generalize sds L n = S
  intro hS lS
  revert q0 q1
  generalize hm : pk L 1 (b + 1) = m
  intro q0 q1
  have hr : rngOk m = true := rng_of (by omega) (by omega)
  refine ofor (ds := rangeD 0 m.toNat) (by simp [evSs, evS, evE.eq_1, evE.eq_2, evE.eq_3, evE.eq_4, evE.eq_5, evE.eq_6, evE.eq_7, evE.eq_8, evE.eq_9, evE.eq_10, evE.eq_11, evE.eq_12, evE.eq_13, evE.eq_14, evE.eq_15, evE.eq_16, evE.eq_17, evE.eq_18, evE.eq_19, evE.eq_20, evE.eq_21, evE.eq_22, evE.eq_23, evE.eq_24, evE.eq_28, evE.eq_30, evE.eq_31, evE.eq_32, evE.eq_33, evE.eq_34, evE.eq_35, evE.eq_36, evE.eq_37, evE.eq_38, evE.eq_39, evE.eq_40, evE.eq_41, evEs, evP, evO, evTo, evT, evAnd, evOr, evTA, evTO, evIt, evB, wp_bind, wp_nx, wp_if, wp_ok, wp_st, ok_bind, ok_nx, ok_rt, EV.R.of_some, rof_if, nxQ_nx, nxQ_rt, wp_noEx, g_0, g_s, s_0, s_s, s_t2, bb, zz, tru_bl, noEx_j, isi_list, isi_int, isi_bool, q_ll, q_llb, lenOk_of, b_add, b_sub, b_mul, b_div, b_mod, b_pow, mulOk_r, mulOk_l, divOk_of, c_lt, c_le, c_gt, c_ge, c_eq, c_ne, c_in, c_ni, dIn_dic, x_lst, x_scr, x_dic, l_lst, l_scr, l_abs, l_int, l_list, l_tup, l_sorted, l_sortedk, i_int, q_lst, q_lstp, q_b, q_bp, q_tup, q_tupp, a_app, a_put, t_0, t_s, rng_of, li_zz, li_bb, li_clean, li_z, pr_zz, pr_bb, pr_clean, pr_z, ll_zz, ll_bb, ll_cleanO, ll_cleanZ, ll_z, clean, isZ, isZs, cleans, zzs, bbs, Fl.bb, dIn_li, dEq_li, dEq_pr, dEq_ll, dEq_int, taint, taints, li_taint, pr_taint, ll_taint, Fl.tt, li_len, pr_len, ll_len, EV.keyOf, List.map_cons, List.map_nil, List.length_cons, List.length_nil, List.set_cons_zero, List.set_cons_succ, Option.map_some, t3_2, pick_call, hm, hr]) ?_
  refine wp_for (I3 L a b n S) ⟨[], _, _, _, _, _, rfl, by simp, ⟨hS, fun t ht => nomatch ht⟩⟩ ?_ ?_
  · rintro i d e hi ⟨T, v7, v8, v9, v10, v11, rfl, hl, hw⟩
    obtain ⟨rfl, hi2⟩ := range_get hi
    have hs : T.length < sizeLine := by show T.length < 16777216; omega
    refine wp_imp (r := (setTg (.name 7) _ _).bind _) (Q := fun o => ∃ e', o = .nx e' ∧ I3 L a b n S (i + 1) e') ?_ (fun o h => by obtain ⟨e', rfl, h⟩ := h; exact post_nx h)
    refine otg (env' := [some (.lst .z (li L)), some (.int a), some (.int b), some (.lst .z [.int 2, .int 2, .int 3, .int 2, .int 1, .int 4]), some (.int n), some (.lst .z (li S)), some (.lst .o (qd T)), some (.int i), v8, v9, v10, v11]) (by simp [evSs, evS, evE.eq_1, evE.eq_2, evE.eq_3, evE.eq_4, evE.eq_5, evE.eq_6, evE.eq_7, evE.eq_8, evE.eq_9, evE.eq_10, evE.eq_11, evE.eq_12, evE.eq_13, evE.eq_14, evE.eq_15, evE.eq_16, evE.eq_17, evE.eq_18, evE.eq_19, evE.eq_20, evE.eq_21, evE.eq_22, evE.eq_23, evE.eq_24, evE.eq_28, evE.eq_30, evE.eq_31, evE.eq_32, evE.eq_33, evE.eq_34, evE.eq_35, evE.eq_36, evE.eq_37, evE.eq_38, evE.eq_39, evE.eq_40, evE.eq_41, evEs, evP, evO, evTo, evT, evAnd, evOr, evTA, evTO, evIt, evB, wp_bind, wp_nx, wp_if, wp_ok, wp_st, ok_bind, ok_nx, ok_rt, EV.R.of_some, rof_if, nxQ_nx, nxQ_rt, wp_noEx, g_0, g_s, s_0, s_s, s_t2, bb, zz, tru_bl, noEx_j, isi_list, isi_int, isi_bool, q_ll, q_llb, lenOk_of, b_add, b_sub, b_mul, b_div, b_mod, b_pow, mulOk_r, mulOk_l, divOk_of, c_lt, c_le, c_gt, c_ge, c_eq, c_ne, c_in, c_ni, dIn_dic, x_lst, x_scr, x_dic, l_lst, l_scr, l_abs, l_int, l_list, l_tup, l_sorted, l_sortedk, i_int, q_lst, q_lstp, q_b, q_bp, q_tup, q_tupp, a_app, a_put, t_0, t_s, rng_of, li_zz, li_bb, li_clean, li_z, pr_zz, pr_bb, pr_clean, pr_z, ll_zz, ll_bb, ll_cleanO, ll_cleanZ, ll_z, clean, isZ, isZs, cleans, zzs, bbs, Fl.bb, dIn_li, dEq_li, dEq_pr, dEq_ll, dEq_int, taint, taints, li_taint, pr_taint, ll_taint, Fl.tt, li_len, pr_len, ll_len, EV.keyOf, List.map_cons, List.map_nil, List.length_cons, List.length_nil, List.set_cons_zero, List.set_cons_succ, Option.map_some]) ?_
    by_cases hn : 0 < n
    · refine step_yes (by simp [evSs, evS, evE.eq_1, evE.eq_2, evE.eq_3, evE.eq_4, evE.eq_5, evE.eq_6, evE.eq_7, evE.eq_8, evE.eq_9, evE.eq_10, evE.eq_11, evE.eq_12, evE.eq_13, evE.eq_14, evE.eq_15, evE.eq_16, evE.eq_17, evE.eq_18, evE.eq_19, evE.eq_20, evE.eq_21, evE.eq_22, evE.eq_23, evE.eq_24, evE.eq_28, evE.eq_30, evE.eq_31, evE.eq_32, evE.eq_33, evE.eq_34, evE.eq_35, evE.eq_36, evE.eq_37, evE.eq_38, evE.eq_39, evE.eq_40, evE.eq_41, evEs, evP, evO, evTo, evT, evAnd, evOr, evTA, evTO, evIt, evB, wp_bind, wp_nx, wp_if, wp_ok, wp_st, ok_bind, ok_nx, ok_rt, EV.R.of_some, rof_if, nxQ_nx, nxQ_rt, wp_noEx, g_0, g_s, s_0, s_s, s_t2, bb, zz, tru_bl, noEx_j, isi_list, isi_int, isi_bool, q_ll, q_llb, lenOk_of, b_add, b_sub, b_mul, b_div, b_mod, b_pow, mulOk_r, mulOk_l, divOk_of, c_lt, c_le, c_gt, c_ge, c_eq, c_ne, c_in, c_ni, dIn_dic, x_lst, x_scr, x_dic, l_lst, l_scr, l_abs, l_int, l_list, l_tup, l_sorted, l_sortedk, i_int, q_lst, q_lstp, q_b, q_bp, q_tup, q_tupp, a_app, a_put, t_0, t_s, rng_of, li_zz, li_bb, li_clean, li_z, pr_zz, pr_bb, pr_clean, pr_z, ll_zz, ll_bb, ll_cleanO, ll_cleanZ, ll_z, clean, isZ, isZs, cleans, zzs, bbs, Fl.bb, dIn_li, dEq_li, dEq_pr, dEq_ll, dEq_int, taint, taints, li_taint, pr_taint, ll_taint, Fl.tt, li_len, pr_len, ll_len, EV.keyOf, List.map_cons, List.map_nil, List.length_cons, List.length_nil, List.set_cons_zero, List.set_cons_succ, Option.map_some, hn]) ?_
      have hk : mulOk 4 (i : Int) = true := mulOk_l (by decide) (by decide)
      refine step (by simp [evSs, evS, evE.eq_1, evE.eq_2, evE.eq_3, evE.eq_4, evE.eq_5, evE.eq_6, evE.eq_7, evE.eq_8, evE.eq_9, evE.eq_10, evE.eq_11, evE.eq_12, evE.eq_13, evE.eq_14, evE.eq_15, evE.eq_16, evE.eq_17, evE.eq_18, evE.eq_19, evE.eq_20, evE.eq_21, evE.eq_22, evE.eq_23, evE.eq_24, evE.eq_28, evE.eq_30, evE.eq_31, evE.eq_32, evE.eq_33, evE.eq_34, evE.eq_35, evE.eq_36, evE.eq_37, evE.eq_38, evE.eq_39, evE.eq_40, evE.eq_41, evEs, evP, evO, evTo, evT, evAnd, evOr, evTA, evTO, evIt, evB, wp_bind, wp_nx, wp_if, wp_ok, wp_st, ok_bind, ok_nx, ok_rt, EV.R.of_some, rof_if, nxQ_nx, nxQ_rt, wp_noEx, g_0, g_s, s_0, s_s, s_t2, bb, zz, tru_bl, noEx_j, isi_list, isi_int, isi_bool, q_ll, q_llb, lenOk_of, b_add, b_sub, b_mul, b_div, b_mod, b_pow, mulOk_r, mulOk_l, divOk_of, c_lt, c_le, c_gt, c_ge, c_eq, c_ne, c_in, c_ni, dIn_dic, x_lst, x_scr, x_dic, l_lst, l_scr, l_abs, l_int, l_list, l_tup, l_sorted, l_sortedk, i_int, q_lst, q_lstp, q_b, q_bp, q_tup, q_tupp, a_app, a_put, t_0, t_s, rng_of, li_zz, li_bb, li_clean, li_z, pr_zz, pr_bb, pr_clean, pr_z, ll_zz, ll_bb, ll_cleanO, ll_cleanZ, ll_z, clean, isZ, isZs, cleans, zzs, bbs, Fl.bb, dIn_li, dEq_li, dEq_pr, dEq_ll, dEq_int, taint, taints, li_taint, pr_taint, ll_taint, Fl.tt, li_len, pr_len, ll_len, EV.keyOf, List.map_cons, List.map_nil, List.length_cons, List.length_nil, List.set_cons_zero, List.set_cons_succ, Option.map_some, hk] <;> rfl) ?_
      generalize 2 + n + 4 * (i : Int) = x
      have a0 := pk0 L x n
      have a1 := pk1 L x n
      have b0 := pk0 L (x + 2) n
      have b1 := pk1 L (x + 2) n
      refine step (by simp [evSs, evS, evE.eq_1, evE.eq_2, evE.eq_3, evE.eq_4, evE.eq_5, evE.eq_6, evE.eq_7, evE.eq_8, evE.eq_9, evE.eq_10, evE.eq_11, evE.eq_12, evE.eq_13, evE.eq_14, evE.eq_15, evE.eq_16, evE.eq_17, evE.eq_18, evE.eq_19, evE.eq_20, evE.eq_21, evE.eq_22, evE.eq_23, evE.eq_24, evE.eq_28, evE.eq_30, evE.eq_31, evE.eq_32, evE.eq_33, evE.eq_34, evE.eq_35, evE.eq_36, evE.eq_37, evE.eq_38, evE.eq_39, evE.eq_40, evE.eq_41, evEs, evP, evO, evTo, evT, evAnd, evOr, evTA, evTO, evIt, evB, wp_bind, wp_nx, wp_if, wp_ok, wp_st, ok_bind, ok_nx, ok_rt, EV.R.of_some, rof_if, nxQ_nx, nxQ_rt, wp_noEx, g_0, g_s, s_0, s_s, s_t2, bb, zz, tru_bl, noEx_j, isi_list, isi_int, isi_bool, q_ll, q_llb, lenOk_of, b_add, b_sub, b_mul, b_div, b_mod, b_pow, mulOk_r, mulOk_l, divOk_of, c_lt, c_le, c_gt, c_ge, c_eq, c_ne, c_in, c_ni, dIn_dic, x_lst, x_scr, x_dic, l_lst, l_scr, l_abs, l_int, l_list, l_tup, l_sorted, l_sortedk, i_int, q_lst, q_lstp, q_b, q_bp, q_tup, q_tupp, a_app, a_put, t_0, t_s, rng_of, li_zz, li_bb, li_clean, li_z, pr_zz, pr_bb, pr_clean, pr_z, ll_zz, ll_bb, ll_cleanO, ll_cleanZ, ll_z, clean, isZ, isZs, cleans, zzs, bbs, Fl.bb, dIn_li, dEq_li, dEq_pr, dEq_ll, dEq_int, taint, taints, li_taint, pr_taint, ll_taint, Fl.tt, li_len, pr_len, ll_len, EV.keyOf, List.map_cons, List.map_nil, List.length_cons, List.length_nil, List.set_cons_zero, List.set_cons_succ, Option.map_some, t3_2, pick_call] <;> rfl) ?_
      refine step (by simp [evSs, evS, evE.eq_1, evE.eq_2, evE.eq_3, evE.eq_4, evE.eq_5, evE.eq_6, evE.eq_7, evE.eq_8, evE.eq_9, evE.eq_10, evE.eq_11, evE.eq_12, evE.eq_13, evE.eq_14, evE.eq_15, evE.eq_16, evE.eq_17, evE.eq_18, evE.eq_19, evE.eq_20, evE.eq_21, evE.eq_22, evE.eq_23, evE.eq_24, evE.eq_28, evE.eq_30, evE.eq_31, evE.eq_32, evE.eq_33, evE.eq_34, evE.eq_35, evE.eq_36, evE.eq_37, evE.eq_38, evE.eq_39, evE.eq_40, evE.eq_41, evEs, evP, evO, evTo, evT, evAnd, evOr, evTA, evTO, evIt, evB, wp_bind, wp_nx, wp_if, wp_ok, wp_st, ok_bind, ok_nx, ok_rt, EV.R.of_some, rof_if, nxQ_nx, nxQ_rt, wp_noEx, g_0, g_s, s_0, s_s, s_t2, bb, zz, tru_bl, noEx_j, isi_list, isi_int, isi_bool, q_ll, q_llb, lenOk_of, b_add, b_sub, b_mul, b_div, b_mod, b_pow, mulOk_r, mulOk_l, divOk_of, c_lt, c_le, c_gt, c_ge, c_eq, c_ne, c_in, c_ni, dIn_dic, x_lst, x_scr, x_dic, l_lst, l_scr, l_abs, l_int, l_list, l_tup, l_sorted, l_sortedk, i_int, q_lst, q_lstp, q_b, q_bp, q_tup, q_tupp, a_app, a_put, t_0, t_s, rng_of, li_zz, li_bb, li_clean, li_z, pr_zz, pr_bb, pr_clean, pr_z, ll_zz, ll_bb, ll_cleanO, ll_cleanZ, ll_z, clean, isZ, isZs, cleans, zzs, bbs, Fl.bb, dIn_li, dEq_li, dEq_pr, dEq_ll, dEq_int, taint, taints, li_taint, pr_taint, ll_taint, Fl.tt, li_len, pr_len, ll_len, EV.keyOf, List.map_cons, List.map_nil, List.length_cons, List.length_nil, List.set_cons_zero, List.set_cons_succ, Option.map_some, t3_2, pick_call] <;> rfl) ?_
      revert a0 a1 b0 b1
      generalize pk L x n = p
      generalize pk L (x + 2) n = q
      intro a0 a1 b0 b1
      have e1 := atI_sd (S := S) a0 (show p < S.length by omega)
      have e2 := atI_sd (S := S) b0 (show q < S.length by omega)
      have m1 := hS _ (sd_mem (S := S) a0 (show p < S.length by omega))
      have m2 := hS _ (sd_mem (S := S) b0 (show q < S.length by omega))
      refine step (by simp [evSs, evS, evE.eq_1, evE.eq_2, evE.eq_3, evE.eq_4, evE.eq_5, evE.eq_6, evE.eq_7, evE.eq_8, evE.eq_9, evE.eq_10, evE.eq_11, evE.eq_12, evE.eq_13, evE.eq_14, evE.eq_15, evE.eq_16, evE.eq_17, evE.eq_18, evE.eq_19, evE.eq_20, evE.eq_21, evE.eq_22, evE.eq_23, evE.eq_24, evE.eq_28, evE.eq_30, evE.eq_31, evE.eq_32, evE.eq_33, evE.eq_34, evE.eq_35, evE.eq_36, evE.eq_37, evE.eq_38, evE.eq_39, evE.eq_40, evE.eq_41, evEs, evP, evO, evTo, evT, evAnd, evOr, evTA, evTO, evIt, evB, wp_bind, wp_nx, wp_if, wp_ok, wp_st, ok_bind, ok_nx, ok_rt, EV.R.of_some, rof_if, nxQ_nx, nxQ_rt, wp_noEx, g_0, g_s, s_0, s_s, s_t2, bb, zz, tru_bl, noEx_j, isi_list, isi_int, isi_bool, q_ll, q_llb, lenOk_of, b_add, b_sub, b_mul, b_div, b_mod, b_pow, mulOk_r, mulOk_l, divOk_of, c_lt, c_le, c_gt, c_ge, c_eq, c_ne, c_in, c_ni, dIn_dic, x_lst, x_scr, x_dic, l_lst, l_scr, l_abs, l_int, l_list, l_tup, l_sorted, l_sortedk, i_int, q_lst, q_lstp, q_b, q_bp, q_tup, q_tupp, a_app, a_put, t_0, t_s, rng_of, li_zz, li_bb, li_clean, li_z, pr_zz, pr_bb, pr_clean, pr_z, ll_zz, ll_bb, ll_cleanO, ll_cleanZ, ll_z, clean, isZ, isZs, cleans, zzs, bbs, Fl.bb, dIn_li, dEq_li, dEq_pr, dEq_ll, dEq_int, taint, taints, li_taint, pr_taint, ll_taint, Fl.tt, li_len, pr_len, ll_len, EV.keyOf, List.map_cons, List.map_nil, List.length_cons, List.length_nil, List.set_cons_zero, List.set_cons_succ, Option.map_some, t3_2, pick_call, e1] <;> rfl) ?_
      refine step (by simp [evSs, evS, evE.eq_1, evE.eq_2, evE.eq_3, evE.eq_4, evE.eq_5, evE.eq_6, evE.eq_7, evE.eq_8, evE.eq_9, evE.eq_10, evE.eq_11, evE.eq_12, evE.eq_13, evE.eq_14, evE.eq_15, evE.eq_16, evE.eq_17, evE.eq_18, evE.eq_19, evE.eq_20, evE.eq_21, evE.eq_22, evE.eq_23, evE.eq_24, evE.eq_28, evE.eq_30, evE.eq_31, evE.eq_32, evE.eq_33, evE.eq_34, evE.eq_35, evE.eq_36, evE.eq_37, evE.eq_38, evE.eq_39, evE.eq_40, evE.eq_41, evEs, evP, evO, evTo, evT, evAnd, evOr, evTA, evTO, evIt, evB, wp_bind, wp_nx, wp_if, wp_ok, wp_st, ok_bind, ok_nx, ok_rt, EV.R.of_some, rof_if, nxQ_nx, nxQ_rt, wp_noEx, g_0, g_s, s_0, s_s, s_t2, bb, zz, tru_bl, noEx_j, isi_list, isi_int, isi_bool, q_ll, q_llb, lenOk_of, b_add, b_sub, b_mul, b_div, b_mod, b_pow, mulOk_r, mulOk_l, divOk_of, c_lt, c_le, c_gt, c_ge, c_eq, c_ne, c_in, c_ni, dIn_dic, x_lst, x_scr, x_dic, l_lst, l_scr, l_abs, l_int, l_list, l_tup, l_sorted, l_sortedk, i_int, q_lst, q_lstp, q_b, q_bp, q_tup, q_tupp, a_app, a_put, t_0, t_s, rng_of, li_zz, li_bb, li_clean, li_z, pr_zz, pr_bb, pr_clean, pr_z, ll_zz, ll_bb, ll_cleanO, ll_cleanZ, ll_z, clean, isZ, isZs, cleans, zzs, bbs, Fl.bb, dIn_li, dEq_li, dEq_pr, dEq_ll, dEq_int, taint, taints, li_taint, pr_taint, ll_taint, Fl.tt, li_len, pr_len, ll_len, EV.keyOf, List.map_cons, List.map_nil, List.length_cons, List.length_nil, List.set_cons_zero, List.set_cons_succ, Option.map_some] <;> rfl) ?_
      refine step (by simp [evSs, evS, evE.eq_1, evE.eq_2, evE.eq_3, evE.eq_4, evE.eq_5, evE.eq_6, evE.eq_7, evE.eq_8, evE.eq_9, evE.eq_10, evE.eq_11, evE.eq_12, evE.eq_13, evE.eq_14, evE.eq_15, evE.eq_16, evE.eq_17, evE.eq_18, evE.eq_19, evE.eq_20, evE.eq_21, evE.eq_22, evE.eq_23, evE.eq_24, evE.eq_28, evE.eq_30, evE.eq_31, evE.eq_32, evE.eq_33, evE.eq_34, evE.eq_35, evE.eq_36, evE.eq_37, evE.eq_38, evE.eq_39, evE.eq_40, evE.eq_41, evEs, evP, evO, evTo, evT, evAnd, evOr, evTA, evTO, evIt, evB, wp_bind, wp_nx, wp_if, wp_ok, wp_st, ok_bind, ok_nx, ok_rt, EV.R.of_some, rof_if, nxQ_nx, nxQ_rt, wp_noEx, g_0, g_s, s_0, s_s, s_t2, bb, zz, tru_bl, noEx_j, isi_list, isi_int, isi_bool, q_ll, q_llb, lenOk_of, b_add, b_sub, b_mul, b_div, b_mod, b_pow, mulOk_r, mulOk_l, divOk_of, c_lt, c_le, c_gt, c_ge, c_eq, c_ne, c_in, c_ni, dIn_dic, x_lst, x_scr, x_dic, l_lst, l_scr, l_abs, l_int, l_list, l_tup, l_sorted, l_sortedk, i_int, q_lst, q_lstp, q_b, q_bp, q_tup, q_tupp, a_app, a_put, t_0, t_s, rng_of, li_zz, li_bb, li_clean, li_z, pr_zz, pr_bb, pr_clean, pr_z, ll_zz, ll_bb, ll_cleanO, ll_cleanZ, ll_z, clean, isZ, isZs, cleans, zzs, bbs, Fl.bb, dIn_li, dEq_li, dEq_pr, dEq_ll, dEq_int, taint, taints, li_taint, pr_taint, ll_taint, Fl.tt, li_len, pr_len, ll_len, EV.keyOf, List.map_cons, List.map_nil, List.length_cons, List.length_nil, List.set_cons_zero, List.set_cons_succ, Option.map_some] <;> rfl) ?_
      refine step (by simp [evSs, evS, evE.eq_1, evE.eq_2, evE.eq_3, evE.eq_4, evE.eq_5, evE.eq_6, evE.eq_7, evE.eq_8, evE.eq_9, evE.eq_10, evE.eq_11, evE.eq_12, evE.eq_13, evE.eq_14, evE.eq_15, evE.eq_16, evE.eq_17, evE.eq_18, evE.eq_19, evE.eq_20, evE.eq_21, evE.eq_22, evE.eq_23, evE.eq_24, evE.eq_28, evE.eq_30, evE.eq_31, evE.eq_32, evE.eq_33, evE.eq_34, evE.eq_35, evE.eq_36, evE.eq_37, evE.eq_38, evE.eq_39, evE.eq_40, evE.eq_41, evEs, evP, evO, evTo, evT, evAnd, evOr, evTA, evTO, evIt, evB, wp_bind, wp_nx, wp_if, wp_ok, wp_st, ok_bind, ok_nx, ok_rt, EV.R.of_some, rof_if, nxQ_nx, nxQ_rt, wp_noEx, g_0, g_s, s_0, s_s, s_t2, bb, zz, tru_bl, noEx_j, isi_list, isi_int, isi_bool, q_ll, q_llb, lenOk_of, b_add, b_sub, b_mul, b_div, b_mod, b_pow, mulOk_r, mulOk_l, divOk_of, c_lt, c_le, c_gt, c_ge, c_eq, c_ne, c_in, c_ni, dIn_dic, x_lst, x_scr, x_dic, l_lst, l_scr, l_abs, l_int, l_list, l_tup, l_sorted, l_sortedk, i_int, q_lst, q_lstp, q_b, q_bp, q_tup, q_tupp, a_app, a_put, t_0, t_s, rng_of, li_zz, li_bb, li_clean, li_z, pr_zz, pr_bb, pr_clean, pr_z, ll_zz, ll_bb, ll_cleanO, ll_cleanZ, ll_z, clean, isZ, isZs, cleans, zzs, bbs, Fl.bb, dIn_li, dEq_li, dEq_pr, dEq_ll, dEq_int, taint, taints, li_taint, pr_taint, ll_taint, Fl.tt, li_len, pr_len, ll_len, EV.keyOf, List.map_cons, List.map_nil, List.length_cons, List.length_nil, List.set_cons_zero, List.set_cons_succ, Option.map_some] <;> rfl) ?_
      have c0 := pk0 L (x + 1) (sd S p)
      have c1 := pk1 L (x + 1) (sd S p)
      have d0 := pk0 L (x + 3) (sd S q)
      have d1 := pk1 L (x + 3) (sd S q)
      refine step (env' := [some (.lst .z (li L)), some (.int a), some (.int b), some (.lst .z [.int 2, .int 2, .int 3, .int 2, .int 1, .int 4]), some (.int n), some (.lst .z (li S)), some (.lst .o (qd (T ++ [(p, pk L (x + 1) (sd S p), q, pk L (x + 3) (sd S q))]))), some (.int i), some (.int x), some (.int p), some (.int q), some (.int (pk L (x + 1) (sd S p)))]) (by simp [evSs, evS, evE.eq_1, evE.eq_2, evE.eq_3, evE.eq_4, evE.eq_5, evE.eq_6, evE.eq_7, evE.eq_8, evE.eq_9, evE.eq_10, evE.eq_11, evE.eq_12, evE.eq_13, evE.eq_14, evE.eq_15, evE.eq_16, evE.eq_17, evE.eq_18, evE.eq_19, evE.eq_20, evE.eq_21, evE.eq_22, evE.eq_23, evE.eq_24, evE.eq_28, evE.eq_30, evE.eq_31, evE.eq_32, evE.eq_33, evE.eq_34, evE.eq_35, evE.eq_36, evE.eq_37, evE.eq_38, evE.eq_39, evE.eq_40, evE.eq_41, evEs, evP, evO, evTo, evT, evAnd, evOr, evTA, evTO, evIt, evB, wp_bind, wp_nx, wp_if, wp_ok, wp_st, ok_bind, ok_nx, ok_rt, EV.R.of_some, rof_if, nxQ_nx, nxQ_rt, wp_noEx, g_0, g_s, s_0, s_s, s_t2, bb, zz, tru_bl, noEx_j, isi_list, isi_int, isi_bool, q_ll, q_llb, lenOk_of, b_add, b_sub, b_mul, b_div, b_mod, b_pow, mulOk_r, mulOk_l, divOk_of, c_lt, c_le, c_gt, c_ge, c_eq, c_ne, c_in, c_ni, dIn_dic, x_lst, x_scr, x_dic, l_lst, l_scr, l_abs, l_int, l_list, l_tup, l_sorted, l_sortedk, i_int, q_lst, q_lstp, q_b, q_bp, q_tup, q_tupp, a_app, a_put, t_0, t_s, rng_of, li_zz, li_bb, li_clean, li_z, pr_zz, pr_bb, pr_clean, pr_z, ll_zz, ll_bb, ll_cleanO, ll_cleanZ, ll_z, clean, isZ, isZs, cleans, zzs, bbs, Fl.bb, dIn_li, dEq_li, dEq_pr, dEq_ll, dEq_int, taint, taints, li_taint, pr_taint, ll_taint, Fl.tt, li_len, pr_len, ll_len, EV.keyOf, List.map_cons, List.map_nil, List.length_cons, List.length_nil, List.set_cons_zero, List.set_cons_succ, Option.map_some, t3_2, pick_call, e2, hs, qd_len, lenOk_of]; simp [qd, qdD]) ?_
      refine ⟨_, rfl, _, rfl, _, rfl, _, _, _, _, _, _, rfl, by simp; omega, ⟨hS, fun t ht => ?_⟩⟩
      rcases List.mem_append.mp ht with ht | ht
      · exact hw.t t ht
      · simp at ht
        subst ht
        exact ⟨a0, by simp only; omega, c0, by simp only; omega, b0, by simp only; omega, d0, by simp only; omega⟩
    · refine step_no (by simp [evSs, evS, evE.eq_1, evE.eq_2, evE.eq_3, evE.eq_4, evE.eq_5, evE.eq_6, evE.eq_7, evE.eq_8, evE.eq_9, evE.eq_10, evE.eq_11, evE.eq_12, evE.eq_13, evE.eq_14, evE.eq_15, evE.eq_16, evE.eq_17, evE.eq_18, evE.eq_19, evE.eq_20, evE.eq_21, evE.eq_22, evE.eq_23, evE.eq_24, evE.eq_28, evE.eq_30, evE.eq_31, evE.eq_32, evE.eq_33, evE.eq_34, evE.eq_35, evE.eq_36, evE.eq_37, evE.eq_38, evE.eq_39, evE.eq_40, evE.eq_41, evEs, evP, evO, evTo, evT, evAnd, evOr, evTA, evTO, evIt, evB, wp_bind, wp_nx, wp_if, wp_ok, wp_st, ok_bind, ok_nx, ok_rt, EV.R.of_some, rof_if, nxQ_nx, nxQ_rt, wp_noEx, g_0, g_s, s_0, s_s, s_t2, bb, zz, tru_bl, noEx_j, isi_list, isi_int, isi_bool, q_ll, q_llb, lenOk_of, b_add, b_sub, b_mul, b_div, b_mod, b_pow, mulOk_r, mulOk_l, divOk_of, c_lt, c_le, c_gt, c_ge, c_eq, c_ne, c_in, c_ni, dIn_dic, x_lst, x_scr, x_dic, l_lst, l_scr, l_abs, l_int, l_list, l_tup, l_sorted, l_sortedk, i_int, q_lst, q_lstp, q_b, q_bp, q_tup, q_tupp, a_app, a_put, t_0, t_s, rng_of, li_zz, li_bb, li_clean, li_z, pr_zz, pr_bb, pr_clean, pr_z, ll_zz, ll_bb, ll_cleanO, ll_cleanZ, ll_z, clean, isZ, isZs, cleans, zzs, bbs, Fl.bb, dIn_li, dEq_li, dEq_pr, dEq_ll, dEq_int, taint, taints, li_taint, pr_taint, ll_taint, Fl.tt, li_len, pr_len, ll_len, EV.keyOf, List.map_cons, List.map_nil, List.length_cons, List.length_nil, List.set_cons_zero, List.set_cons_succ, Option.map_some, hn]) ?_
      exact ⟨_, rfl, _, rfl, T, _, _, _, _, _, rfl, by omega, hw⟩
  · rintro e ⟨T, v7, v8, v9, v10, v11, rfl, hl, hw⟩
    rw [range_len] at hl
    rw [nxQ_nx]
    refine step (by simp [evSs, evS, evE.eq_1, evE.eq_2, evE.eq_3, evE.eq_4, evE.eq_5, evE.eq_6, evE.eq_7, evE.eq_8, evE.eq_9, evE.eq_10, evE.eq_11, evE.eq_12, evE.eq_13, evE.eq_14, evE.eq_15, evE.eq_16, evE.eq_17, evE.eq_18, evE.eq_19, evE.eq_20, evE.eq_21, evE.eq_22, evE.eq_23, evE.eq_24, evE.eq_28, evE.eq_30, evE.eq_31, evE.eq_32, evE.eq_33, evE.eq_34, evE.eq_35, evE.eq_36, evE.eq_37, evE.eq_38, evE.eq_39, evE.eq_40, evE.eq_41, evEs, evP, evO, evTo, evT, evAnd, evOr, evTA, evTO, evIt, evB, wp_bind, wp_nx, wp_if, wp_ok, wp_st, ok_bind, ok_nx, ok_rt, EV.R.of_some, rof_if, nxQ_nx, nxQ_rt, wp_noEx, g_0, g_s, s_0, s_s, s_t2, bb, zz, tru_bl, noEx_j, isi_list, isi_int, isi_bool, q_ll, q_llb, lenOk_of, b_add, b_sub, b_mul, b_div, b_mod, b_pow, mulOk_r, mulOk_l, divOk_of, c_lt, c_le, c_gt, c_ge, c_eq, c_ne, c_in, c_ni, dIn_dic, x_lst, x_scr, x_dic, l_lst, l_scr, l_abs, l_int, l_list, l_tup, l_sorted, l_sortedk, i_int, q_lst, q_lstp, q_b, q_bp, q_tup, q_tupp, a_app, a_put, t_0, t_s, rng_of, li_zz, li_bb, li_clean, li_z, pr_zz, pr_bb, pr_clean, pr_z, ll_zz, ll_bb, ll_cleanO, ll_cleanZ, ll_z, clean, isZ, isZs, cleans, zzs, bbs, Fl.bb, dIn_li, dEq_li, dEq_pr, dEq_ll, dEq_int, taint, taints, li_taint, pr_taint, ll_taint, Fl.tt, li_len, pr_len, ll_len, EV.keyOf, List.map_cons, List.map_nil, List.length_cons, List.length_nil, List.set_cons_zero, List.set_cons_succ, Option.map_some, qd_zz] <;> rfl) ?_
    refine step (by simp [evSs, evS, evE.eq_1, evE.eq_2, evE.eq_3, evE.eq_4, evE.eq_5, evE.eq_6, evE.eq_7, evE.eq_8, evE.eq_9, evE.eq_10, evE.eq_11, evE.eq_12, evE.eq_13, evE.eq_14, evE.eq_15, evE.eq_16, evE.eq_17, evE.eq_18, evE.eq_19, evE.eq_20, evE.eq_21, evE.eq_22, evE.eq_23, evE.eq_24, evE.eq_28, evE.eq_30, evE.eq_31, evE.eq_32, evE.eq_33, evE.eq_34, evE.eq_35, evE.eq_36, evE.eq_37, evE.eq_38, evE.eq_39, evE.eq_40, evE.eq_41, evEs, evP, evO, evTo, evT, evAnd, evOr, evTA, evTO, evIt, evB, wp_bind, wp_nx, wp_if, wp_ok, wp_st, ok_bind, ok_nx, ok_rt, EV.R.of_some, rof_if, nxQ_nx, nxQ_rt, wp_noEx, g_0, g_s, s_0, s_s, s_t2, bb, zz, tru_bl, noEx_j, isi_list, isi_int, isi_bool, q_ll, q_llb, lenOk_of, b_add, b_sub, b_mul, b_div, b_mod, b_pow, mulOk_r, mulOk_l, divOk_of, c_lt, c_le, c_gt, c_ge, c_eq, c_ne, c_in, c_ni, dIn_dic, x_lst, x_scr, x_dic, l_lst, l_scr, l_abs, l_int, l_list, l_tup, l_sorted, l_sortedk, i_int, q_lst, q_lstp, q_b, q_bp, q_tup, q_tupp, a_app, a_put, t_0, t_s, rng_of, li_zz, li_bb, li_clean, li_z, pr_zz, pr_bb, pr_clean, pr_z, ll_zz, ll_bb, ll_cleanO, ll_cleanZ, ll_z, clean, isZ, isZs, cleans, zzs, bbs, Fl.bb, dIn_li, dEq_li, dEq_pr, dEq_ll, dEq_int, taint, taints, li_taint, pr_taint, ll_taint, Fl.tt, li_len, pr_len, ll_len, EV.keyOf, List.map_cons, List.map_nil, List.length_cons, List.length_nil, List.set_cons_zero, List.set_cons_succ, Option.map_some] <;> rfl) ?_
    refine step (by simp [evSs, evS, evE.eq_1, evE.eq_2, evE.eq_3, evE.eq_4, evE.eq_5, evE.eq_6, evE.eq_7, evE.eq_8, evE.eq_9, evE.eq_10, evE.eq_11, evE.eq_12, evE.eq_13, evE.eq_14, evE.eq_15, evE.eq_16, evE.eq_17, evE.eq_18, evE.eq_19, evE.eq_20, evE.eq_21, evE.eq_22, evE.eq_23, evE.eq_24, evE.eq_28, evE.eq_30, evE.eq_31, evE.eq_32, evE.eq_33, evE.eq_34, evE.eq_35, evE.eq_36, evE.eq_37, evE.eq_38, evE.eq_39, evE.eq_40, evE.eq_41, evEs, evP, evO, evTo, evT, evAnd, evOr, evTA, evTO, evIt, evB, wp_bind, wp_nx, wp_if, wp_ok, wp_st, ok_bind, ok_nx, ok_rt, EV.R.of_some, rof_if, nxQ_nx, nxQ_rt, wp_noEx, g_0, g_s, s_0, s_s, s_t2, bb, zz, tru_bl, noEx_j, isi_list, isi_int, isi_bool, q_ll, q_llb, lenOk_of, b_add, b_sub, b_mul, b_div, b_mod, b_pow, mulOk_r, mulOk_l, divOk_of, c_lt, c_le, c_gt, c_ge, c_eq, c_ne, c_in, c_ni, dIn_dic, x_lst, x_scr, x_dic, l_lst, l_scr, l_abs, l_int, l_list, l_tup, l_sorted, l_sortedk, i_int, q_lst, q_lstp, q_b, q_bp, q_tup, q_tupp, a_app, a_put, t_0, t_s, rng_of, li_zz, li_bb, li_clean, li_z, pr_zz, pr_bb, pr_clean, pr_z, ll_zz, ll_bb, ll_cleanO, ll_cleanZ, ll_z, clean, isZ, isZs, cleans, zzs, bbs, Fl.bb, dIn_li, dEq_li, dEq_pr, dEq_ll, dEq_int, taint, taints, li_taint, pr_taint, ll_taint, Fl.tt, li_len, pr_len, ll_len, EV.keyOf, List.map_cons, List.map_nil, List.length_cons, List.length_nil, List.set_cons_zero, List.set_cons_succ, Option.map_some, qd_zz] <;> rfl) ?_
    refine step_ret (d := .tup [.lst .z (li S), .lst .z (qd T)]) (by simp [evSs, evS, evE.eq_1, evE.eq_2, evE.eq_3, evE.eq_4, evE.eq_5, evE.eq_6, evE.eq_7, evE.eq_8, evE.eq_9, evE.eq_10, evE.eq_11, evE.eq_12, evE.eq_13, evE.eq_14, evE.eq_15, evE.eq_16, evE.eq_17, evE.eq_18, evE.eq_19, evE.eq_20, evE.eq_21, evE.eq_22, evE.eq_23, evE.eq_24, evE.eq_28, evE.eq_30, evE.eq_31, evE.eq_32, evE.eq_33, evE.eq_34, evE.eq_35, evE.eq_36, evE.eq_37, evE.eq_38, evE.eq_39, evE.eq_40, evE.eq_41, evEs, evP, evO, evTo, evT, evAnd, evOr, evTA, evTO, evIt, evB, wp_bind, wp_nx, wp_if, wp_ok, wp_st, ok_bind, ok_nx, ok_rt, EV.R.of_some, rof_if, nxQ_nx, nxQ_rt, wp_noEx, g_0, g_s, s_0, s_s, s_t2, bb, zz, tru_bl, noEx_j, isi_list, isi_int, isi_bool, q_ll, q_llb, lenOk_of, b_add, b_sub, b_mul, b_div, b_mod, b_pow, mulOk_r, mulOk_l, divOk_of, c_lt, c_le, c_gt, c_ge, c_eq, c_ne, c_in, c_ni, dIn_dic, x_lst, x_scr, x_dic, l_lst, l_scr, l_abs, l_int, l_list, l_tup, l_sorted, l_sortedk, i_int, q_lst, q_lstp, q_b, q_bp, q_tup, q_tupp, a_app, a_put, t_0, t_s, rng_of, li_zz, li_bb, li_clean, li_z, pr_zz, pr_bb, pr_clean, pr_z, ll_zz, ll_bb, ll_cleanO, ll_cleanZ, ll_z, clean, isZ, isZs, cleans, zzs, bbs, Fl.bb, dIn_li, dEq_li, dEq_pr, dEq_ll, dEq_int, taint, taints, li_taint, pr_taint, ll_taint, Fl.tt, li_len, pr_len, ll_len, EV.keyOf, List.map_cons, List.map_nil, List.length_cons, List.length_nil, List.set_cons_zero, List.set_cons_succ, Option.map_some, qd_clean, qd_zz, qd_bb]) ⟨_, rfl, S, T, rfl, by omega, by omega, hw⟩
end K08
namespace K08
open PySem L2 EV
theorem bl_back {ds : List D} {b : Bool} : backD ds (.bl b) = .bl b := by unfold backD; split <;> rfl
theorem int_back {ds : List D} {b : Int} : backD ds (.int b) = .int b := by unfold backD; split <;> rfl
theorem non_back {ds : List D} : backD ds .non = .non := by unfold backD; split <;> rfl
theorem l_ttup {ds : List D} : dB .len (.tup ds) = some (.int ds.length) := rfl
theorem b_ttup {ds : List D} : dB .tuple (.tup ds) = some (.tup ds) := rfl
theorem l_listt {ds : List D} : dB .list (.tup ds) = some (.lst .o ds) := rfl
theorem x_tup {ds : List D} {i : Int} : dIx (.tup ds) (.int i) = atI ds i := rfl
theorem x_p0 {x y : D} : atI [x, y] 0 = some x := rfl
theorem x_p1 {x y : D} : atI [x, y] 1 = some y := rfl
theorem x_q0 {x y z w : D} : atI [x, y, z, w] 0 = some x := rfl
theorem x_q1 {x y z w : D} : atI [x, y, z, w] 1 = some y := rfl
theorem x_q2 {x y z w : D} : atI [x, y, z, w] 2 = some z := rfl
theorem x_q3 {x y z w : D} : atI [x, y, z, w] 3 = some w := rfl
theorem s_t4 {i j k l : Nat} {x y z w : D} {env : EV.Env} : setTg (.tup [i, j, k, l]) (.tup [x, y, z, w]) env = (setTg (.name i) x env).bind fun e => (setTg (.name j) y e).bind fun e => (setTg (.name k) z e).bind fun e => setTg (.name l) w e := by
  simp only [setTg, setAll, decide_eq_true_eq]
  split
  · rw [ok_bind]
    split
    · rw [ok_bind]
      split
      · rw [ok_bind]
      · rfl
    · rfl
  · rfl
theorem qd_isz (t : Tie) : isZ (qdD t) = true := rfl
/-- an unpacked tie -/
theorem a_t4 {Φ : Tab} {i j k l : Nat} {e : C} {ss : Ss} {env env' : EV.Env} {t : Tie} {Q : Out → Prop} (h : evE Φ e env = .ok (qdD t))
    (h2 : ((setTg (.name i) (.int t.1) env).bind fun e => (setTg (.name j) (.int t.2.1) e).bind fun e => (setTg (.name k) (.int t.2.2.1) e).bind fun e => setTg (.name l) (.int t.2.2.2) e) = .ok env') (q : Wp (evSs Φ ss env') Q) :
    Wp (evSs Φ (.cons (.asg (.tup [i, j, k, l]) e) ss) env) Q := by
  refine step (env' := env') ?_ q
  rw [evS, h, ok_bind]
  show (if isZ (qdD t) = true then (setTg (.tup [i, j, k, l]) (.tup [.int t.1, .int t.2.1, .int t.2.2.1, .int t.2.2.2]) env).bind fun env' => .ok (Out.nx env') else .st) = _
  rw [if_pos (qd_isz t), s_t4, h2, ok_bind]
/-! the program's checks -/
theorem limits_ok {S : List Int} {T : List Tie} (h1 : S.length ≤ 200) (h2 : T.length ≤ 300) : F5.sem [.tup (li S), .tup (qd T)] = .ok .non := by
  refine wp_eq ?_
  have n1 : ¬ (200 : Int) < S.length := by omega
  have n2 : ¬ (300 : Int) < T.length := by omega
  simp [F5, runF, dr5, evSs, evS, evE, evEs, evP, evO, evTo, evT, evAnd, evOr, evTA, evTO, evIt, evB, wp_bind, wp_nx, wp_if, wp_ok, wp_st, ok_bind, ok_nx, ok_rt, EV.R.of_some, rof_if, nxQ_nx, nxQ_rt, wp_noEx, g_0, g_s, s_0, s_s, s_t2, bb, zz, tru_bl, noEx_j, isi_list, isi_int, isi_bool, q_ll, q_llb, lenOk_of, b_add, b_sub, b_mul, b_div, b_mod, b_pow, mulOk_r, mulOk_l, divOk_of, c_lt, c_le, c_gt, c_ge, c_eq, c_ne, c_in, c_ni, dIn_dic, x_lst, x_scr, x_dic, l_lst, l_scr, l_abs, l_int, l_list, l_tup, l_sorted, l_sortedk, i_int, q_lst, q_lstp, q_b, q_bp, q_tup, q_tupp, a_app, a_put, t_0, t_s, rng_of, li_zz, li_bb, li_clean, li_z, pr_zz, pr_bb, pr_clean, pr_z, ll_zz, ll_bb, ll_cleanO, ll_cleanZ, ll_z, clean, isZ, isZs, cleans, zzs, bbs, Fl.bb, dIn_li, dEq_li, dEq_pr, dEq_ll, dEq_int, taint, taints, li_taint, pr_taint, ll_taint, Fl.tt, li_len, pr_len, ll_len, EV.keyOf, List.map_cons, List.map_nil, List.length_cons, List.length_nil, List.set_cons_zero, List.set_cons_succ, Option.map_some, l_ttup, li_len, qd_len, li_bb, qd_bb, n1, n2]
theorem limits_call {S : List Int} {T : List Tie} (h1 : S.length ≤ 200) (h2 : T.length ≤ 300) : callD F5 [.tup (li S), .tup (qd T)] = .ok .non :=
  callD_v rfl (by simp only [zzs, zz, li_zz, qd_zz]; exact limits_ok h1 h2) (.inr non_back)
theorem sides_ok {p c : Int} (h1 : 1 ≤ c) (h2 : c ≤ 4) : F7.sem [.int p, .int c] = .ok .non := by
  refine wp_eq ?_
  have n1 : ¬ c < 1 := by omega
  have n2 : ¬ 4 < c := by omega
  simp [F7, runF, dr7, evSs, evS, evE, evEs, evP, evO, evTo, evT, evAnd, evOr, evTA, evTO, evIt, evB, wp_bind, wp_nx, wp_if, wp_ok, wp_st, ok_bind, ok_nx, ok_rt, EV.R.of_some, rof_if, nxQ_nx, nxQ_rt, wp_noEx, g_0, g_s, s_0, s_s, s_t2, bb, zz, tru_bl, noEx_j, isi_list, isi_int, isi_bool, q_ll, q_llb, lenOk_of, b_add, b_sub, b_mul, b_div, b_mod, b_pow, mulOk_r, mulOk_l, divOk_of, c_lt, c_le, c_gt, c_ge, c_eq, c_ne, c_in, c_ni, dIn_dic, x_lst, x_scr, x_dic, l_lst, l_scr, l_abs, l_int, l_list, l_tup, l_sorted, l_sortedk, i_int, q_lst, q_lstp, q_b, q_bp, q_tup, q_tupp, a_app, a_put, t_0, t_s, rng_of, li_zz, li_bb, li_clean, li_z, pr_zz, pr_bb, pr_clean, pr_z, ll_zz, ll_bb, ll_cleanO, ll_cleanZ, ll_z, clean, isZ, isZs, cleans, zzs, bbs, Fl.bb, dIn_li, dEq_li, dEq_pr, dEq_ll, dEq_int, taint, taints, li_taint, pr_taint, ll_taint, Fl.tt, li_len, pr_len, ll_len, EV.keyOf, List.map_cons, List.map_nil, List.length_cons, List.length_nil, List.set_cons_zero, List.set_cons_succ, Option.map_some, n1, n2]
theorem sides_call {p c : Int} (h1 : 1 ≤ c) (h2 : c ≤ 4) : callD F7 [.int p, .int c] = .ok .non := callD_v rfl (sides_ok h1 h2) (.inr non_back)
theorem end_ok {S : List Int} {p s : Int} (h0 : 0 ≤ p) (h1 : p < S.length) (h2 : 0 ≤ s) (h3 : s < sd S p) : F10.sem [.tup (li S), .int p, .int s] = .ok .non := by
  refine wp_eq ?_
  simp [F10, runF, dr10, evSs, evS, evE, evEs, evP, evO, evTo, evT, evAnd, evOr, evTA, evTO, evIt, evB, wp_bind, wp_nx, wp_if, wp_ok, wp_st, ok_bind, ok_nx, ok_rt, EV.R.of_some, rof_if, nxQ_nx, nxQ_rt, wp_noEx, g_0, g_s, s_0, s_s, s_t2, bb, zz, tru_bl, noEx_j, isi_list, isi_int, isi_bool, q_ll, q_llb, lenOk_of, b_add, b_sub, b_mul, b_div, b_mod, b_pow, mulOk_r, mulOk_l, divOk_of, c_lt, c_le, c_gt, c_ge, c_eq, c_ne, c_in, c_ni, dIn_dic, x_lst, x_scr, x_dic, l_lst, l_scr, l_abs, l_int, l_list, l_tup, l_sorted, l_sortedk, i_int, q_lst, q_lstp, q_b, q_bp, q_tup, q_tupp, a_app, a_put, t_0, t_s, rng_of, li_zz, li_bb, li_clean, li_z, pr_zz, pr_bb, pr_clean, pr_z, ll_zz, ll_bb, ll_cleanO, ll_cleanZ, ll_z, clean, isZ, isZs, cleans, zzs, bbs, Fl.bb, dIn_li, dEq_li, dEq_pr, dEq_ll, dEq_int, taint, taints, li_taint, pr_taint, ll_taint, Fl.tt, li_len, pr_len, ll_len, EV.keyOf, List.map_cons, List.map_nil, List.length_cons, List.length_nil, List.set_cons_zero, List.set_cons_succ, Option.map_some, l_ttup, li_len, li_bb, x_tup, atI_sd h0 h1, h0, h1, h2, h3]
theorem end_call {S : List Int} {p s : Int} (h0 : 0 ≤ p) (h1 : p < S.length) (h2 : 0 ≤ s) (h3 : s < sd S p) : callD F10 [.tup (li S), .int p, .int s] = .ok .non :=
  callD_v rfl (by simp only [zzs, zz, li_zz]; exact end_ok h0 h1 h2 h3) (.inr non_back)
theorem tie_ok {S : List Int} {t : Tie} (h : TieOk S t) : F11.sem [.tup (li S), qdD t] = .ok .non := by
  obtain ⟨h1, h2, h3, h4, h5, h6, h7, h8⟩ := h
  show runF T11 6 dr11.body _ = _
  unfold runF
  have k : Wp (evSs T11 dr11.body [some (.tup (li S)), some (qdD t), none, none, none, none]) fun o => ∃ e, o = .nx e := by
    unfold dr11
    refine a_t4 (t := t) (env' := [some (.tup (li S)), some (qdD t), some (.int t.1), some (.int t.2.1), some (.int t.2.2.1), some (.int t.2.2.2)]) (by simp [evSs, evS, evE.eq_1, evE.eq_2, evE.eq_3, evE.eq_4, evE.eq_5, evE.eq_6, evE.eq_7, evE.eq_8, evE.eq_9, evE.eq_10, evE.eq_11, evE.eq_12, evE.eq_13, evE.eq_14, evE.eq_15, evE.eq_16, evE.eq_17, evE.eq_18, evE.eq_19, evE.eq_20, evE.eq_21, evE.eq_22, evE.eq_23, evE.eq_24, evE.eq_28, evE.eq_30, evE.eq_31, evE.eq_32, evE.eq_33, evE.eq_34, evE.eq_35, evE.eq_36, evE.eq_37, evE.eq_38, evE.eq_39, evE.eq_40, evE.eq_41, evEs, evP, evO, evTo, evT, evAnd, evOr, evTA, evTO, evIt, evB, wp_bind, wp_nx, wp_if, wp_ok, wp_st, ok_bind, ok_nx, ok_rt, EV.R.of_some, rof_if, nxQ_nx, nxQ_rt, wp_noEx, g_0, g_s, s_0, s_s, s_t2, bb, zz, tru_bl, noEx_j, isi_list, isi_int, isi_bool, q_ll, q_llb, lenOk_of, b_add, b_sub, b_mul, b_div, b_mod, b_pow, mulOk_r, mulOk_l, divOk_of, c_lt, c_le, c_gt, c_ge, c_eq, c_ne, c_in, c_ni, dIn_dic, x_lst, x_scr, x_dic, l_lst, l_scr, l_abs, l_int, l_list, l_tup, l_sorted, l_sortedk, i_int, q_lst, q_lstp, q_b, q_bp, q_tup, q_tupp, a_app, a_put, t_0, t_s, rng_of, li_zz, li_bb, li_clean, li_z, pr_zz, pr_bb, pr_clean, pr_z, ll_zz, ll_bb, ll_cleanO, ll_cleanZ, ll_z, clean, isZ, isZs, cleans, zzs, bbs, Fl.bb, dIn_li, dEq_li, dEq_pr, dEq_ll, dEq_int, taint, taints, li_taint, pr_taint, ll_taint, Fl.tt, li_len, pr_len, ll_len, EV.keyOf, List.map_cons, List.map_nil, List.length_cons, List.length_nil, List.set_cons_zero, List.set_cons_succ, Option.map_some]; rfl) (by simp [evSs, evS, evE.eq_1, evE.eq_2, evE.eq_3, evE.eq_4, evE.eq_5, evE.eq_6, evE.eq_7, evE.eq_8, evE.eq_9, evE.eq_10, evE.eq_11, evE.eq_12, evE.eq_13, evE.eq_14, evE.eq_15, evE.eq_16, evE.eq_17, evE.eq_18, evE.eq_19, evE.eq_20, evE.eq_21, evE.eq_22, evE.eq_23, evE.eq_24, evE.eq_28, evE.eq_30, evE.eq_31, evE.eq_32, evE.eq_33, evE.eq_34, evE.eq_35, evE.eq_36, evE.eq_37, evE.eq_38, evE.eq_39, evE.eq_40, evE.eq_41, evEs, evP, evO, evTo, evT, evAnd, evOr, evTA, evTO, evIt, evB, wp_bind, wp_nx, wp_if, wp_ok, wp_st, ok_bind, ok_nx, ok_rt, EV.R.of_some, rof_if, nxQ_nx, nxQ_rt, wp_noEx, g_0, g_s, s_0, s_s, s_t2, bb, zz, tru_bl, noEx_j, isi_list, isi_int, isi_bool, q_ll, q_llb, lenOk_of, b_add, b_sub, b_mul, b_div, b_mod, b_pow, mulOk_r, mulOk_l, divOk_of, c_lt, c_le, c_gt, c_ge, c_eq, c_ne, c_in, c_ni, dIn_dic, x_lst, x_scr, x_dic, l_lst, l_scr, l_abs, l_int, l_list, l_tup, l_sorted, l_sortedk, i_int, q_lst, q_lstp, q_b, q_bp, q_tup, q_tupp, a_app, a_put, t_0, t_s, rng_of, li_zz, li_bb, li_clean, li_z, pr_zz, pr_bb, pr_clean, pr_z, ll_zz, ll_bb, ll_cleanO, ll_cleanZ, ll_z, clean, isZ, isZs, cleans, zzs, bbs, Fl.bb, dIn_li, dEq_li, dEq_pr, dEq_ll, dEq_int, taint, taints, li_taint, pr_taint, ll_taint, Fl.tt, li_len, pr_len, ll_len, EV.keyOf, List.map_cons, List.map_nil, List.length_cons, List.length_nil, List.set_cons_zero, List.set_cons_succ, Option.map_some]) ?_
    refine step (by simp [evSs, evS, evE.eq_1, evE.eq_2, evE.eq_3, evE.eq_4, evE.eq_5, evE.eq_6, evE.eq_7, evE.eq_8, evE.eq_9, evE.eq_10, evE.eq_11, evE.eq_12, evE.eq_13, evE.eq_14, evE.eq_15, evE.eq_16, evE.eq_17, evE.eq_18, evE.eq_19, evE.eq_20, evE.eq_21, evE.eq_22, evE.eq_23, evE.eq_24, evE.eq_28, evE.eq_30, evE.eq_31, evE.eq_32, evE.eq_33, evE.eq_34, evE.eq_35, evE.eq_36, evE.eq_37, evE.eq_38, evE.eq_39, evE.eq_40, evE.eq_41, evEs, evP, evO, evTo, evT, evAnd, evOr, evTA, evTO, evIt, evB, wp_bind, wp_nx, wp_if, wp_ok, wp_st, ok_bind, ok_nx, ok_rt, EV.R.of_some, rof_if, nxQ_nx, nxQ_rt, wp_noEx, g_0, g_s, s_0, s_s, s_t2, bb, zz, tru_bl, noEx_j, isi_list, isi_int, isi_bool, q_ll, q_llb, lenOk_of, b_add, b_sub, b_mul, b_div, b_mod, b_pow, mulOk_r, mulOk_l, divOk_of, c_lt, c_le, c_gt, c_ge, c_eq, c_ne, c_in, c_ni, dIn_dic, x_lst, x_scr, x_dic, l_lst, l_scr, l_abs, l_int, l_list, l_tup, l_sorted, l_sortedk, i_int, q_lst, q_lstp, q_b, q_bp, q_tup, q_tupp, a_app, a_put, t_0, t_s, rng_of, li_zz, li_bb, li_clean, li_z, pr_zz, pr_bb, pr_clean, pr_z, ll_zz, ll_bb, ll_cleanO, ll_cleanZ, ll_z, clean, isZ, isZs, cleans, zzs, bbs, Fl.bb, dIn_li, dEq_li, dEq_pr, dEq_ll, dEq_int, taint, taints, li_taint, pr_taint, ll_taint, Fl.tt, li_len, pr_len, ll_len, EV.keyOf, List.map_cons, List.map_nil, List.length_cons, List.length_nil, List.set_cons_zero, List.set_cons_succ, Option.map_some, t11_10, li_bb, end_call h1 h2 h3 h4] <;> rfl) ?_
    refine step (by simp [evSs, evS, evE.eq_1, evE.eq_2, evE.eq_3, evE.eq_4, evE.eq_5, evE.eq_6, evE.eq_7, evE.eq_8, evE.eq_9, evE.eq_10, evE.eq_11, evE.eq_12, evE.eq_13, evE.eq_14, evE.eq_15, evE.eq_16, evE.eq_17, evE.eq_18, evE.eq_19, evE.eq_20, evE.eq_21, evE.eq_22, evE.eq_23, evE.eq_24, evE.eq_28, evE.eq_30, evE.eq_31, evE.eq_32, evE.eq_33, evE.eq_34, evE.eq_35, evE.eq_36, evE.eq_37, evE.eq_38, evE.eq_39, evE.eq_40, evE.eq_41, evEs, evP, evO, evTo, evT, evAnd, evOr, evTA, evTO, evIt, evB, wp_bind, wp_nx, wp_if, wp_ok, wp_st, ok_bind, ok_nx, ok_rt, EV.R.of_some, rof_if, nxQ_nx, nxQ_rt, wp_noEx, g_0, g_s, s_0, s_s, s_t2, bb, zz, tru_bl, noEx_j, isi_list, isi_int, isi_bool, q_ll, q_llb, lenOk_of, b_add, b_sub, b_mul, b_div, b_mod, b_pow, mulOk_r, mulOk_l, divOk_of, c_lt, c_le, c_gt, c_ge, c_eq, c_ne, c_in, c_ni, dIn_dic, x_lst, x_scr, x_dic, l_lst, l_scr, l_abs, l_int, l_list, l_tup, l_sorted, l_sortedk, i_int, q_lst, q_lstp, q_b, q_bp, q_tup, q_tupp, a_app, a_put, t_0, t_s, rng_of, li_zz, li_bb, li_clean, li_z, pr_zz, pr_bb, pr_clean, pr_z, ll_zz, ll_bb, ll_cleanO, ll_cleanZ, ll_z, clean, isZ, isZs, cleans, zzs, bbs, Fl.bb, dIn_li, dEq_li, dEq_pr, dEq_ll, dEq_int, taint, taints, li_taint, pr_taint, ll_taint, Fl.tt, li_len, pr_len, ll_len, EV.keyOf, List.map_cons, List.map_nil, List.length_cons, List.length_nil, List.set_cons_zero, List.set_cons_succ, Option.map_some, t11_10, li_bb, end_call h5 h6 h7 h8] <;> rfl) ?_
    exact ⟨_, rfl, _, rfl⟩
  obtain ⟨o, e, env, rfl⟩ := k
  show (EV.R.bind (evSs T11 dr11.body [some (.tup (li S)), some (qdD t), none, none, none, none]) _) = _
  rw [e]; rfl
theorem tie_call {S : List Int} {t : Tie} (h : TieOk S t) : callD F11 [.tup (li S), qdD t] = .ok .non :=
  callD_v rfl (by simp only [zzs, zz, li_zz]; exact tie_ok h) (.inr non_back)
/-! the steps that leave a place, each with its side -/
def one (p : Int) (i : Int) (t : Tie) : List (Int × Int × Int) := (if t.1 = p then [(i, 0, t.2.1)] else []) ++ (if t.2.2.1 = p then [(i, 1, t.2.2.2)] else [])
def stq (p : Int) : Int → List Tie → List (Int × Int × Int)
  | _, [] => []
  | i, t :: T => one p i t ++ stq p (i + 1) T
theorem stq_app {p : Int} {t : Tie} : ∀ (A : List Tie) (i : Int), stq p i (A ++ [t]) = stq p i A ++ one p (i + A.length) t
  | [], i => by simp [stq]
  | x :: A, i => by
    rw [List.cons_append, stq, stq_app A, stq, List.append_assoc, List.length_cons]
    congr 3
    push_cast
    omega
theorem stq_mem {p : Int} {x : Int × Int × Int} : ∀ (A : List Tie) (i : Int), x ∈ stq p i A → ∃ t, A[(x.1 - i).toNat]? = some t ∧ i ≤ x.1 ∧ x.1 < i + A.length ∧ ((x.2.1 = 0 ∧ t.1 = p ∧ x.2.2 = t.2.1) ∨ (x.2.1 = 1 ∧ t.2.2.1 = p ∧ x.2.2 = t.2.2.2))
  | [], i, h => by simp [stq] at h
  | y :: A, i, h => by
    rw [stq, List.mem_append] at h
    rcases h with h | h
    · unfold one at h
      rw [List.mem_append] at h
      rcases h with h | h
      · split at h
        · rename_i hp
          simp at h
          subst h
          exact ⟨y, by simp, by simp, by simp; omega, .inl ⟨rfl, hp, rfl⟩⟩
        · simp at h
      · split at h
        · rename_i hp
          simp at h
          subst h
          exact ⟨y, by simp, by simp, by simp; omega, .inr ⟨rfl, hp, rfl⟩⟩
        · simp at h
    · obtain ⟨t, e, a, b, c⟩ := stq_mem A (i + 1) h
      refine ⟨t, ?_, by omega, by simp; omega, c⟩
      rw [show (x.1 - i).toNat = (x.1 - (i + 1)).toNat + 1 by omega]
      simpa using e
def lo2 (x : Int × Int × Int) : Int × Int := (x.1, x.2.1)
def st (p : Int) (T : List Tie) : List (Int × Int) := (stq p 0 T).map lo2
def lvO (n : Nat) (T : List Tie) : List D := (List.range n).map fun p : Nat => .lst .o (pr (st p T))
def lv (n : Nat) (T : List Tie) : List D := (List.range n).map fun p : Nat => .tup (pr (st p T))
theorem lv_zs (n : Nat) (T : List Tie) : isZs (lv n T) = true := by
  unfold lv
  generalize List.range n = L
  induction L with
  | nil => rfl
  | cons x L ih => simp [isZs, isZ, pr_z, ih]
/-- a step taken down -/
theorem put_lv {n : Nat} {Y : Nat → List (Int × Int)} {a : Int} {x y : Int} (h0 : 0 ≤ a) (h1 : a < n) {f : Nat → List (Int × Int)} (hf : ∀ p : Nat, f p = if a = p then Y p ++ [(x, y)] else Y p) (hs : (Y a.toNat).length < sizeLine) {w0 w1 v3 v4 v5 v6 : Option D} :
    atO [w0, w1, some (.lst .o ((List.range n).map fun p : Nat => .lst .o (pr (Y p)))), v3, v4, v5, v6] 2 [.int a] (fun t => appO t (.tup [.int x, .int y])) = .ok [w0, w1, some (.lst .o ((List.range n).map fun p : Nat => .lst .o (pr (f p)))), v3, v4, v5, v6] := by
  have ln : ((List.range n).map fun p : Nat => D.lst .o (pr (Y p))).length = n := by simp
  have at' : atI ((List.range n).map fun p : Nat => D.lst .o (pr (Y p))) a = some (.lst .o (pr (Y a.toNat))) := by
    rw [atI_ok h0 (by rw [ln]; exact h1)]
    simp
  have ix : ixN ((List.range n).map fun p : Nat => D.lst .o (pr (Y p))).length a = some a.toNat := by
    unfold ixN
    rw [if_pos h0, ln, if_pos h1]
  have g1 : getO (.lst .o ((List.range n).map fun p : Nat => D.lst .o (pr (Y p)))) [.int a] = some (.lst .o (pr (Y a.toNat))) := at'
  have g2 : appO (.lst .o (pr (Y a.toNat))) (.tup [.int x, .int y]) = some (.lst .o (pr (Y a.toNat ++ [(x, y)]))) := by
    rw [a_app, pr_len, if_pos hs, pr_app]
  show (EV.get [w0, w1, some (.lst .o ((List.range n).map fun p : Nat => .lst .o (pr (Y p)))), v3, v4, v5, v6] 2).bind _ = _
  rw [show EV.get [w0, w1, some (.lst .o ((List.range n).map fun p : Nat => .lst .o (pr (Y p)))), v3, v4, v5, v6] 2 = .ok (.lst .o ((List.range n).map fun p : Nat => .lst .o (pr (Y p)))) from rfl, ok_bind, g1, Option.bind_some, g2]
  have g3 : setO (.lst .o ((List.range n).map fun p : Nat => D.lst .o (pr (Y p)))) [.int a] (.lst .o (pr (Y a.toNat ++ [(x, y)]))) = .lst .o (((List.range n).map fun p : Nat => D.lst .o (pr (Y p))).set a.toNat (.lst .o (pr (Y a.toNat ++ [(x, y)])))) := by
    show putO (.lst .o ((List.range n).map fun p : Nat => D.lst .o (pr (Y p)))) (.int a) _ = _
    unfold putO
    simp only [ix]
  have g4 : ((List.range n).map fun p : Nat => D.lst .o (pr (Y p))).set a.toNat (.lst .o (pr (Y a.toNat ++ [(x, y)]))) = (List.range n).map fun p : Nat => .lst .o (pr (f p)) := by
    refine List.ext_getElem (by simp) fun i h1 h2 => ?_
    simp only [List.getElem_set, List.getElem_map, List.getElem_range, hf]
    by_cases h : a.toNat = i
    · have : a = (i : Int) := by omega
      rw [if_pos h, if_pos this, h]
    · have : ¬ a = (i : Int) := by omega
      rw [if_neg h, if_neg this]
  rw [EV.R.of_some, ok_bind, g3, g4]
  rfl
end K08
namespace K08
open PySem L2 EV
theorem enum_get : ∀ {ds : List D} {k i : Nat} {d : D}, (enumD k ds)[i]? = some d → ∃ x, ds[i]? = some x ∧ d = .tup [.int ((k : Int) + i), x]
  | [], k, i, d, h => by simp [enumD] at h
  | y :: ds, k, 0, d, h => by
    simp [enumD] at h
    exact ⟨y, rfl, by simp [← h]⟩
  | y :: ds, k, i + 1, d, h => by
    simp only [enumD, List.getElem?_cons_succ] at h
    obtain ⟨x, e, e2⟩ := enum_get h
    refine ⟨x, by simpa using e, ?_⟩
    rw [e2]
    congr 3
    push_cast
    omega
theorem enum_len : ∀ {ds : List D} {k : Nat}, (enumD k ds).length = ds.length
  | [], _ => rfl
  | y :: ds, k => by simp [enumD, enum_len]
theorem seq_qd {lv : Bool} {T : List Tie} : seqOf lv (.tup (qd T)) = some (qd T) := by cases lv <;> simp [seqOf, qd_z]
theorem lvO_len {n : Nat} {T : List Tie} : (lvO n T).length = n := by simp [lvO]
theorem lv_len {n : Nat} {T : List Tie} : (lv n T).length = n := by simp [lv]
def lvZ (n : Nat) (T : List Tie) : List D := (List.range n).map fun p : Nat => .lst .z (pr (st p T))
theorem lvO_zz (n : Nat) (T : List Tie) : zzs (lvO n T) = lvZ n T := by
  unfold lvO lvZ
  generalize List.range n = L
  induction L with
  | nil => rfl
  | cons x L ih => simp only [List.map_cons, zzs, zz, pr_zz, ih]
theorem lvZ_zz (n : Nat) (T : List Tie) : zzs (lvZ n T) = lvZ n T := by
  unfold lvZ
  generalize List.range n = L
  induction L with
  | nil => rfl
  | cons x L ih => simp only [List.map_cons, zzs, zz, pr_zz, ih]
theorem lvZ_bb (n : Nat) (T : List Tie) : bbs (lvZ n T) = lvZ n T := by
  unfold lvZ
  generalize List.range n = L
  induction L with
  | nil => rfl
  | cons x L ih => simp only [List.map_cons, bbs, bb, pr_bb, Fl.bb, ih]
theorem lvZ_clean (n : Nat) (T : List Tie) : cleans (lvZ n T) = true := by
  unfold lvZ
  generalize List.range n = L
  induction L with
  | nil => rfl
  | cons x L ih => simp [cleans, clean, pr_clean, ih]
theorem lv_clean (n : Nat) (T : List Tie) : cleans (lv n T) = true := by
  unfold lv
  generalize List.range n = L
  induction L with
  | nil => rfl
  | cons x L ih => simp [cleans, clean, pr_clean, ih]
theorem lv_zz (n : Nat) (T : List Tie) : zzs (lv n T) = lv n T := zzs_id _ (lv_zs n T)
theorem lv_bb (n : Nat) (T : List Tie) : bbs (lv n T) = lv n T := bbs_id _ (lv_zs n T)
theorem new12 {S : List Int} {d : D} (hl : S.length ≤ 1000000) : evE T12 (.comp (.seq (.slot 0)) (.name 5) [5] .none (.lst .nil)) [some (.tup (li S)), some d, none, none, none, none, none] = .ok (.lst .o (lvO S.length [])) := by
  have e : lvO S.length [] = S.map fun _ => D.lst .o [] := by
    refine List.ext_getElem (by simp [lvO]) fun i h1 h2 => ?_
    simp [lvO, st, stq, pr]
  rw [e]
  refine comp_map S .int _ ?_ rfl (fun t _ => ?_) (fun t _ => rfl) (by show S.length ≤ 16777216; omega)
  · simp [evSs, evS, evE.eq_1, evE.eq_2, evE.eq_3, evE.eq_4, evE.eq_5, evE.eq_6, evE.eq_7, evE.eq_8, evE.eq_9, evE.eq_10, evE.eq_11, evE.eq_12, evE.eq_13, evE.eq_14, evE.eq_15, evE.eq_16, evE.eq_17, evE.eq_18, evE.eq_19, evE.eq_20, evE.eq_21, evE.eq_22, evE.eq_23, evE.eq_24, evE.eq_28, evE.eq_30, evE.eq_31, evE.eq_32, evE.eq_33, evE.eq_34, evE.eq_35, evE.eq_36, evE.eq_37, evE.eq_38, evE.eq_39, evE.eq_40, evE.eq_41, evEs, evP, evO, evTo, evT, evAnd, evOr, evTA, evTO, evIt, evB, wp_bind, wp_nx, wp_if, wp_ok, wp_st, ok_bind, ok_nx, ok_rt, EV.R.of_some, rof_if, nxQ_nx, nxQ_rt, wp_noEx, g_0, g_s, s_0, s_s, s_t2, bb, zz, tru_bl, noEx_j, isi_list, isi_int, isi_bool, q_ll, q_llb, lenOk_of, b_add, b_sub, b_mul, b_div, b_mod, b_pow, mulOk_r, mulOk_l, divOk_of, c_lt, c_le, c_gt, c_ge, c_eq, c_ne, c_in, c_ni, dIn_dic, x_lst, x_scr, x_dic, l_lst, l_scr, l_abs, l_int, l_list, l_tup, l_sorted, l_sortedk, i_int, q_lst, q_lstp, q_b, q_bp, q_tup, q_tupp, a_app, a_put, t_0, t_s, rng_of, li_zz, li_bb, li_clean, li_z, pr_zz, pr_bb, pr_clean, pr_z, ll_zz, ll_bb, ll_cleanO, ll_cleanZ, ll_z, clean, isZ, isZs, cleans, zzs, bbs, Fl.bb, dIn_li, dEq_li, dEq_pr, dEq_ll, dEq_int, taint, taints, li_taint, pr_taint, ll_taint, Fl.tt, li_len, pr_len, ll_len, EV.keyOf, List.map_cons, List.map_nil, List.length_cons, List.length_nil, List.set_cons_zero, List.set_cons_succ, Option.map_some, li_bb, q_tup]; rfl
  · simp [wipeE, evSs, evS, evE.eq_1, evE.eq_2, evE.eq_3, evE.eq_4, evE.eq_5, evE.eq_6, evE.eq_7, evE.eq_8, evE.eq_9, evE.eq_10, evE.eq_11, evE.eq_12, evE.eq_13, evE.eq_14, evE.eq_15, evE.eq_16, evE.eq_17, evE.eq_18, evE.eq_19, evE.eq_20, evE.eq_21, evE.eq_22, evE.eq_23, evE.eq_24, evE.eq_28, evE.eq_30, evE.eq_31, evE.eq_32, evE.eq_33, evE.eq_34, evE.eq_35, evE.eq_36, evE.eq_37, evE.eq_38, evE.eq_39, evE.eq_40, evE.eq_41, evEs, evP, evO, evTo, evT, evAnd, evOr, evTA, evTO, evIt, evB, wp_bind, wp_nx, wp_if, wp_ok, wp_st, ok_bind, ok_nx, ok_rt, EV.R.of_some, rof_if, nxQ_nx, nxQ_rt, wp_noEx, g_0, g_s, s_0, s_s, s_t2, bb, zz, tru_bl, noEx_j, isi_list, isi_int, isi_bool, q_ll, q_llb, lenOk_of, b_add, b_sub, b_mul, b_div, b_mod, b_pow, mulOk_r, mulOk_l, divOk_of, c_lt, c_le, c_gt, c_ge, c_eq, c_ne, c_in, c_ni, dIn_dic, x_lst, x_scr, x_dic, l_lst, l_scr, l_abs, l_int, l_list, l_tup, l_sorted, l_sortedk, i_int, q_lst, q_lstp, q_b, q_bp, q_tup, q_tupp, a_app, a_put, t_0, t_s, rng_of, li_zz, li_bb, li_clean, li_z, pr_zz, pr_bb, pr_clean, pr_z, ll_zz, ll_bb, ll_cleanO, ll_cleanZ, ll_z, clean, isZ, isZs, cleans, zzs, bbs, Fl.bb, dIn_li, dEq_li, dEq_pr, dEq_ll, dEq_int, taint, taints, li_taint, pr_taint, ll_taint, Fl.tt, li_len, pr_len, ll_len, EV.keyOf, List.map_cons, List.map_nil, List.length_cons, List.length_nil, List.set_cons_zero, List.set_cons_succ, Option.map_some]
theorem out12 {n : Nat} {T : List Tie} {d e : D} {v3 v4 : Option D} (hl : n ≤ 1000000) : evE T12 (.comp (.seq (.slot 2)) (.name 6) [6] .none (.blt .tuple (.slot 6))) [some d, some e, some (.lst .z (lvZ n T)), v3, v4, none, none] = .ok (.lst .o (lv n T)) := by
  refine comp_map (List.range n) (fun p => .lst .z (pr (st p T))) (fun p => .tup (pr (st p T))) ?_ rfl (fun t _ => ?_) (fun t _ => by simp [clean, pr_clean]) (by rw [List.length_range]; show n ≤ 16777216; omega)
  · simp [evSs, evS, evE.eq_1, evE.eq_2, evE.eq_3, evE.eq_4, evE.eq_5, evE.eq_6, evE.eq_7, evE.eq_8, evE.eq_9, evE.eq_10, evE.eq_11, evE.eq_12, evE.eq_13, evE.eq_14, evE.eq_15, evE.eq_16, evE.eq_17, evE.eq_18, evE.eq_19, evE.eq_20, evE.eq_21, evE.eq_22, evE.eq_23, evE.eq_24, evE.eq_28, evE.eq_30, evE.eq_31, evE.eq_32, evE.eq_33, evE.eq_34, evE.eq_35, evE.eq_36, evE.eq_37, evE.eq_38, evE.eq_39, evE.eq_40, evE.eq_41, evEs, evP, evO, evTo, evT, evAnd, evOr, evTA, evTO, evIt, evB, wp_bind, wp_nx, wp_if, wp_ok, wp_st, ok_bind, ok_nx, ok_rt, EV.R.of_some, rof_if, nxQ_nx, nxQ_rt, wp_noEx, g_0, g_s, s_0, s_s, s_t2, bb, zz, tru_bl, noEx_j, isi_list, isi_int, isi_bool, q_ll, q_llb, lenOk_of, b_add, b_sub, b_mul, b_div, b_mod, b_pow, mulOk_r, mulOk_l, divOk_of, c_lt, c_le, c_gt, c_ge, c_eq, c_ne, c_in, c_ni, dIn_dic, x_lst, x_scr, x_dic, l_lst, l_scr, l_abs, l_int, l_list, l_tup, l_sorted, l_sortedk, i_int, q_lst, q_lstp, q_b, q_bp, q_tup, q_tupp, a_app, a_put, t_0, t_s, rng_of, li_zz, li_bb, li_clean, li_z, pr_zz, pr_bb, pr_clean, pr_z, ll_zz, ll_bb, ll_cleanO, ll_cleanZ, ll_z, clean, isZ, isZs, cleans, zzs, bbs, Fl.bb, dIn_li, dEq_li, dEq_pr, dEq_ll, dEq_int, taint, taints, li_taint, pr_taint, ll_taint, Fl.tt, li_len, pr_len, ll_len, EV.keyOf, List.map_cons, List.map_nil, List.length_cons, List.length_nil, List.set_cons_zero, List.set_cons_succ, Option.map_some, lvZ_bb, Fl.bb, seqOf, lvZ_clean, lvZ_zz]; rfl
  · simp [wipeE, evSs, evS, evE.eq_1, evE.eq_2, evE.eq_3, evE.eq_4, evE.eq_5, evE.eq_6, evE.eq_7, evE.eq_8, evE.eq_9, evE.eq_10, evE.eq_11, evE.eq_12, evE.eq_13, evE.eq_14, evE.eq_15, evE.eq_16, evE.eq_17, evE.eq_18, evE.eq_19, evE.eq_20, evE.eq_21, evE.eq_22, evE.eq_23, evE.eq_24, evE.eq_28, evE.eq_30, evE.eq_31, evE.eq_32, evE.eq_33, evE.eq_34, evE.eq_35, evE.eq_36, evE.eq_37, evE.eq_38, evE.eq_39, evE.eq_40, evE.eq_41, evEs, evP, evO, evTo, evT, evAnd, evOr, evTA, evTO, evIt, evB, wp_bind, wp_nx, wp_if, wp_ok, wp_st, ok_bind, ok_nx, ok_rt, EV.R.of_some, rof_if, nxQ_nx, nxQ_rt, wp_noEx, g_0, g_s, s_0, s_s, s_t2, bb, zz, tru_bl, noEx_j, isi_list, isi_int, isi_bool, q_ll, q_llb, lenOk_of, b_add, b_sub, b_mul, b_div, b_mod, b_pow, mulOk_r, mulOk_l, divOk_of, c_lt, c_le, c_gt, c_ge, c_eq, c_ne, c_in, c_ni, dIn_dic, x_lst, x_scr, x_dic, l_lst, l_scr, l_abs, l_int, l_list, l_tup, l_sorted, l_sortedk, i_int, q_lst, q_lstp, q_b, q_bp, q_tup, q_tupp, a_app, a_put, t_0, t_s, rng_of, li_zz, li_bb, li_clean, li_z, pr_zz, pr_bb, pr_clean, pr_z, ll_zz, ll_bb, ll_cleanO, ll_cleanZ, ll_z, clean, isZ, isZs, cleans, zzs, bbs, Fl.bb, dIn_li, dEq_li, dEq_pr, dEq_ll, dEq_int, taint, taints, li_taint, pr_taint, ll_taint, Fl.tt, li_len, pr_len, ll_len, EV.keyOf, List.map_cons, List.map_nil, List.length_cons, List.length_nil, List.set_cons_zero, List.set_cons_succ, Option.map_some]
theorem st_len {p : Int} {T : List Tie} {i : Int} : (stq p i T).length ≤ 2 * T.length := by
  induction T generalizing i with
  | nil => simp [stq]
  | cons t T ih =>
    have := ih (i := i + 1)
    simp only [stq, List.length_append, List.length_cons, one]
    split <;> split <;> simp <;> omega
def I12 (S : List Int) (T : List Tie) (i : Nat) (e : EV.Env) : Prop := ∃ v3 v4 : Option D, e = [some (.tup (li S)), some (.tup (qd T)), some (.lst .o (lvO S.length (T.take i))), v3, v4, none, none]
theorem take_next {α : Type} {T : List α} {i : Nat} {t : α} (h : T[i]? = some t) : T.take (i + 1) = T.take i ++ [t] := by
  rw [List.take_succ, h]; rfl
theorem places_ok {S : List Int} {T : List Tie} (h : WebOk S T) (hl : S.length ≤ 200) (hT : T.length ≤ 300) : F12.sem [.tup (li S), .tup (qd T)] = .ok (.tup (lv S.length T)) := by
  refine run_eq ?_
  show Wp (evSs T12 dr12.body [some (.tup (li S)), some (.tup (qd T)), none, none, none, none, none]) _
  unfold dr12
  refine step (env' := [some (.tup (li S)), some (.tup (qd T)), some (.lst .o (lvO S.length [])), none, none, none, none]) ?_ ?_
  · rw [evS, new12 (by omega), ok_bind]
    have : clean (D.lst .o (lvO S.length [])) = true := by
      have key : cleans (lvO S.length []) = true := by
        unfold lvO
        generalize List.range S.length = L
        induction L with
        | nil => rfl
        | cons x L ih => simp [cleans, clean, pr_clean, ih]
      simp [clean, key]
    simp [this]
  refine ofor (ds := enumD 0 (qd T)) (by simp [evSs, evS, evE.eq_1, evE.eq_2, evE.eq_3, evE.eq_4, evE.eq_5, evE.eq_6, evE.eq_7, evE.eq_8, evE.eq_9, evE.eq_10, evE.eq_11, evE.eq_12, evE.eq_13, evE.eq_14, evE.eq_15, evE.eq_16, evE.eq_17, evE.eq_18, evE.eq_19, evE.eq_20, evE.eq_21, evE.eq_22, evE.eq_23, evE.eq_24, evE.eq_28, evE.eq_30, evE.eq_31, evE.eq_32, evE.eq_33, evE.eq_34, evE.eq_35, evE.eq_36, evE.eq_37, evE.eq_38, evE.eq_39, evE.eq_40, evE.eq_41, evEs, evP, evO, evTo, evT, evAnd, evOr, evTA, evTO, evIt, evB, wp_bind, wp_nx, wp_if, wp_ok, wp_st, ok_bind, ok_nx, ok_rt, EV.R.of_some, rof_if, nxQ_nx, nxQ_rt, wp_noEx, g_0, g_s, s_0, s_s, s_t2, bb, zz, tru_bl, noEx_j, isi_list, isi_int, isi_bool, q_ll, q_llb, lenOk_of, b_add, b_sub, b_mul, b_div, b_mod, b_pow, mulOk_r, mulOk_l, divOk_of, c_lt, c_le, c_gt, c_ge, c_eq, c_ne, c_in, c_ni, dIn_dic, x_lst, x_scr, x_dic, l_lst, l_scr, l_abs, l_int, l_list, l_tup, l_sorted, l_sortedk, i_int, q_lst, q_lstp, q_b, q_bp, q_tup, q_tupp, a_app, a_put, t_0, t_s, rng_of, li_zz, li_bb, li_clean, li_z, pr_zz, pr_bb, pr_clean, pr_z, ll_zz, ll_bb, ll_cleanO, ll_cleanZ, ll_z, clean, isZ, isZs, cleans, zzs, bbs, Fl.bb, dIn_li, dEq_li, dEq_pr, dEq_ll, dEq_int, taint, taints, li_taint, pr_taint, ll_taint, Fl.tt, li_len, pr_len, ll_len, EV.keyOf, List.map_cons, List.map_nil, List.length_cons, List.length_nil, List.set_cons_zero, List.set_cons_succ, Option.map_some, qd_bb, seq_qd, qd_z]) ?_
  refine wp_for (I12 S T) ⟨_, _, rfl⟩ ?_ ?_
  · rintro i d e hi ⟨v3, v4, rfl⟩
    obtain ⟨x, hx, rfl⟩ := enum_get hi
    obtain ⟨t, ht, rfl⟩ := qd_some hx
    have hi2 : i < T.length := (List.getElem?_eq_some_iff.mp ht).1
    obtain ⟨h1, h2, h3, h4, h5, h6, h7, h8⟩ := h.t t (List.mem_of_getElem? ht)
    refine wp_imp (r := (setTg (.tup [3, 4]) _ _).bind _) (Q := fun o => ∃ e', o = .nx e' ∧ I12 S T (i + 1) e') ?_ (fun o h => by obtain ⟨e', rfl, h⟩ := h; exact post_nx h)
    refine otg (env' := [some (.tup (li S)), some (.tup (qd T)), some (.lst .o (lvO S.length (T.take i))), some (.int i), some (qdD t), none, none]) (by simp [evSs, evS, evE.eq_1, evE.eq_2, evE.eq_3, evE.eq_4, evE.eq_5, evE.eq_6, evE.eq_7, evE.eq_8, evE.eq_9, evE.eq_10, evE.eq_11, evE.eq_12, evE.eq_13, evE.eq_14, evE.eq_15, evE.eq_16, evE.eq_17, evE.eq_18, evE.eq_19, evE.eq_20, evE.eq_21, evE.eq_22, evE.eq_23, evE.eq_24, evE.eq_28, evE.eq_30, evE.eq_31, evE.eq_32, evE.eq_33, evE.eq_34, evE.eq_35, evE.eq_36, evE.eq_37, evE.eq_38, evE.eq_39, evE.eq_40, evE.eq_41, evEs, evP, evO, evTo, evT, evAnd, evOr, evTA, evTO, evIt, evB, wp_bind, wp_nx, wp_if, wp_ok, wp_st, ok_bind, ok_nx, ok_rt, EV.R.of_some, rof_if, nxQ_nx, nxQ_rt, wp_noEx, g_0, g_s, s_0, s_s, s_t2, bb, zz, tru_bl, noEx_j, isi_list, isi_int, isi_bool, q_ll, q_llb, lenOk_of, b_add, b_sub, b_mul, b_div, b_mod, b_pow, mulOk_r, mulOk_l, divOk_of, c_lt, c_le, c_gt, c_ge, c_eq, c_ne, c_in, c_ni, dIn_dic, x_lst, x_scr, x_dic, l_lst, l_scr, l_abs, l_int, l_list, l_tup, l_sorted, l_sortedk, i_int, q_lst, q_lstp, q_b, q_bp, q_tup, q_tupp, a_app, a_put, t_0, t_s, rng_of, li_zz, li_bb, li_clean, li_z, pr_zz, pr_bb, pr_clean, pr_z, ll_zz, ll_bb, ll_cleanO, ll_cleanZ, ll_z, clean, isZ, isZs, cleans, zzs, bbs, Fl.bb, dIn_li, dEq_li, dEq_pr, dEq_ll, dEq_int, taint, taints, li_taint, pr_taint, ll_taint, Fl.tt, li_len, pr_len, ll_len, EV.keyOf, List.map_cons, List.map_nil, List.length_cons, List.length_nil, List.set_cons_zero, List.set_cons_succ, Option.map_some]) ?_
    have hs : ∀ p : Int, (st p (T.take i)).length + 1 < sizeLine := fun p => by
      have := st_len (p := p) (T := T.take i) (i := 0)
      rw [List.length_take] at this
      show (List.map lo2 _).length + 1 < 16777216
      rw [List.length_map]
      omega
    have b1 := put_lv (n := S.length) (Y := fun p => st p (T.take i)) (a := t.1) (x := (i : Int)) (y := 0) h1 h2 (f := fun p => if t.1 = (p : Int) then st p (T.take i) ++ [((i : Int), 0)] else st p (T.take i)) (fun p => rfl) (by have := hs (t.1.toNat : Int); omega) (w0 := some (.tup (li S))) (w1 := some (.tup (qd T))) (v3 := some (.int i)) (v4 := some (qdD t)) (v5 := none) (v6 := none)
    have b2 := put_lv (n := S.length) (Y := fun p => if t.1 = (p : Int) then st p (T.take i) ++ [((i : Int), 0)] else st p (T.take i)) (a := t.2.2.1) (x := (i : Int)) (y := 1) h5 h6 (f := fun p => st p (T.take (i + 1))) (fun p => by
      have lt : (T.take i).length = i := by rw [List.length_take]; omega
      unfold st
      rw [take_next ht, stq_app, lt, List.map_append]
      unfold one
      by_cases e1 : t.1 = (p : Int) <;> by_cases e2 : t.2.2.1 = (p : Int) <;> simp [e1, e2, lo2]) (by
        have := hs (t.2.2.1.toNat : Int)
        show (if t.1 = ((t.2.2.1.toNat : Nat) : Int) then st _ (T.take i) ++ [((i : Int), 0)] else st _ (T.take i)).length < sizeLine
        split
        · rw [List.length_append]; exact this
        · omega) (w0 := some (.tup (li S))) (w1 := some (.tup (qd T))) (v3 := some (.int i)) (v4 := some (qdD t)) (v5 := none) (v6 := none)
    refine step (env' := [some (.tup (li S)), some (.tup (qd T)), some (.lst .o ((List.range S.length).map fun p : Nat => .lst .o (pr (if t.1 = (p : Int) then st p (T.take i) ++ [((i : Int), 0)] else st p (T.take i))))), some (.int i), some (qdD t), none, none]) ?_ ?_
    · have e1 : evP T12 (.cons (.ix (.slot 4) (.int 0)) .nil) [some (.tup (li S)), some (.tup (qd T)), some (.lst .o (lvO S.length (T.take i))), some (.int i), some (qdD t), none, none] = .ok [.int t.1] := by simp [evSs, evS, evE.eq_1, evE.eq_2, evE.eq_3, evE.eq_4, evE.eq_5, evE.eq_6, evE.eq_7, evE.eq_8, evE.eq_9, evE.eq_10, evE.eq_11, evE.eq_12, evE.eq_13, evE.eq_14, evE.eq_15, evE.eq_16, evE.eq_17, evE.eq_18, evE.eq_19, evE.eq_20, evE.eq_21, evE.eq_22, evE.eq_23, evE.eq_24, evE.eq_28, evE.eq_30, evE.eq_31, evE.eq_32, evE.eq_33, evE.eq_34, evE.eq_35, evE.eq_36, evE.eq_37, evE.eq_38, evE.eq_39, evE.eq_40, evE.eq_41, evEs, evP, evO, evTo, evT, evAnd, evOr, evTA, evTO, evIt, evB, wp_bind, wp_nx, wp_if, wp_ok, wp_st, ok_bind, ok_nx, ok_rt, EV.R.of_some, rof_if, nxQ_nx, nxQ_rt, wp_noEx, g_0, g_s, s_0, s_s, s_t2, bb, zz, tru_bl, noEx_j, isi_list, isi_int, isi_bool, q_ll, q_llb, lenOk_of, b_add, b_sub, b_mul, b_div, b_mod, b_pow, mulOk_r, mulOk_l, divOk_of, c_lt, c_le, c_gt, c_ge, c_eq, c_ne, c_in, c_ni, dIn_dic, x_lst, x_scr, x_dic, l_lst, l_scr, l_abs, l_int, l_list, l_tup, l_sorted, l_sortedk, i_int, q_lst, q_lstp, q_b, q_bp, q_tup, q_tupp, a_app, a_put, t_0, t_s, rng_of, li_zz, li_bb, li_clean, li_z, pr_zz, pr_bb, pr_clean, pr_z, ll_zz, ll_bb, ll_cleanO, ll_cleanZ, ll_z, clean, isZ, isZs, cleans, zzs, bbs, Fl.bb, dIn_li, dEq_li, dEq_pr, dEq_ll, dEq_int, taint, taints, li_taint, pr_taint, ll_taint, Fl.tt, li_len, pr_len, ll_len, EV.keyOf, List.map_cons, List.map_nil, List.length_cons, List.length_nil, List.set_cons_zero, List.set_cons_succ, Option.map_some, qdD, x_tup, x_q0]
      have e2 : evE T12 (.tup (.cons (.slot 3) (.cons (.int 0) .nil))) [some (.tup (li S)), some (.tup (qd T)), some (.lst .o (lvO S.length (T.take i))), some (.int i), some (qdD t), none, none] = .ok (.tup [.int i, .int 0]) := by simp [evSs, evS, evE.eq_1, evE.eq_2, evE.eq_3, evE.eq_4, evE.eq_5, evE.eq_6, evE.eq_7, evE.eq_8, evE.eq_9, evE.eq_10, evE.eq_11, evE.eq_12, evE.eq_13, evE.eq_14, evE.eq_15, evE.eq_16, evE.eq_17, evE.eq_18, evE.eq_19, evE.eq_20, evE.eq_21, evE.eq_22, evE.eq_23, evE.eq_24, evE.eq_28, evE.eq_30, evE.eq_31, evE.eq_32, evE.eq_33, evE.eq_34, evE.eq_35, evE.eq_36, evE.eq_37, evE.eq_38, evE.eq_39, evE.eq_40, evE.eq_41, evEs, evP, evO, evTo, evT, evAnd, evOr, evTA, evTO, evIt, evB, wp_bind, wp_nx, wp_if, wp_ok, wp_st, ok_bind, ok_nx, ok_rt, EV.R.of_some, rof_if, nxQ_nx, nxQ_rt, wp_noEx, g_0, g_s, s_0, s_s, s_t2, bb, zz, tru_bl, noEx_j, isi_list, isi_int, isi_bool, q_ll, q_llb, lenOk_of, b_add, b_sub, b_mul, b_div, b_mod, b_pow, mulOk_r, mulOk_l, divOk_of, c_lt, c_le, c_gt, c_ge, c_eq, c_ne, c_in, c_ni, dIn_dic, x_lst, x_scr, x_dic, l_lst, l_scr, l_abs, l_int, l_list, l_tup, l_sorted, l_sortedk, i_int, q_lst, q_lstp, q_b, q_bp, q_tup, q_tupp, a_app, a_put, t_0, t_s, rng_of, li_zz, li_bb, li_clean, li_z, pr_zz, pr_bb, pr_clean, pr_z, ll_zz, ll_bb, ll_cleanO, ll_cleanZ, ll_z, clean, isZ, isZs, cleans, zzs, bbs, Fl.bb, dIn_li, dEq_li, dEq_pr, dEq_ll, dEq_int, taint, taints, li_taint, pr_taint, ll_taint, Fl.tt, li_len, pr_len, ll_len, EV.keyOf, List.map_cons, List.map_nil, List.length_cons, List.length_nil, List.set_cons_zero, List.set_cons_succ, Option.map_some, lenOk_of]
      rw [evS, e1, ok_bind, e2, noEx_j, ok_bind, if_pos (by rfl)]
      rw [show lvO S.length (T.take i) = (List.range S.length).map fun p : Nat => .lst .o (pr (st p (T.take i))) from rfl, b1, ok_bind]
    refine step (env' := [some (.tup (li S)), some (.tup (qd T)), some (.lst .o (lvO S.length (T.take (i + 1)))), some (.int i), some (qdD t), none, none]) ?_ ?_
    · have e1 : ∀ v, evP T12 (.cons (.ix (.slot 4) (.int 2)) .nil) [some (.tup (li S)), some (.tup (qd T)), v, some (.int i), some (qdD t), none, none] = .ok [.int t.2.2.1] := fun v => by simp [evSs, evS, evE.eq_1, evE.eq_2, evE.eq_3, evE.eq_4, evE.eq_5, evE.eq_6, evE.eq_7, evE.eq_8, evE.eq_9, evE.eq_10, evE.eq_11, evE.eq_12, evE.eq_13, evE.eq_14, evE.eq_15, evE.eq_16, evE.eq_17, evE.eq_18, evE.eq_19, evE.eq_20, evE.eq_21, evE.eq_22, evE.eq_23, evE.eq_24, evE.eq_28, evE.eq_30, evE.eq_31, evE.eq_32, evE.eq_33, evE.eq_34, evE.eq_35, evE.eq_36, evE.eq_37, evE.eq_38, evE.eq_39, evE.eq_40, evE.eq_41, evEs, evP, evO, evTo, evT, evAnd, evOr, evTA, evTO, evIt, evB, wp_bind, wp_nx, wp_if, wp_ok, wp_st, ok_bind, ok_nx, ok_rt, EV.R.of_some, rof_if, nxQ_nx, nxQ_rt, wp_noEx, g_0, g_s, s_0, s_s, s_t2, bb, zz, tru_bl, noEx_j, isi_list, isi_int, isi_bool, q_ll, q_llb, lenOk_of, b_add, b_sub, b_mul, b_div, b_mod, b_pow, mulOk_r, mulOk_l, divOk_of, c_lt, c_le, c_gt, c_ge, c_eq, c_ne, c_in, c_ni, dIn_dic, x_lst, x_scr, x_dic, l_lst, l_scr, l_abs, l_int, l_list, l_tup, l_sorted, l_sortedk, i_int, q_lst, q_lstp, q_b, q_bp, q_tup, q_tupp, a_app, a_put, t_0, t_s, rng_of, li_zz, li_bb, li_clean, li_z, pr_zz, pr_bb, pr_clean, pr_z, ll_zz, ll_bb, ll_cleanO, ll_cleanZ, ll_z, clean, isZ, isZs, cleans, zzs, bbs, Fl.bb, dIn_li, dEq_li, dEq_pr, dEq_ll, dEq_int, taint, taints, li_taint, pr_taint, ll_taint, Fl.tt, li_len, pr_len, ll_len, EV.keyOf, List.map_cons, List.map_nil, List.length_cons, List.length_nil, List.set_cons_zero, List.set_cons_succ, Option.map_some, qdD, x_tup, x_q2]
      have e2 : ∀ v, evE T12 (.tup (.cons (.slot 3) (.cons (.int 1) .nil))) [some (.tup (li S)), some (.tup (qd T)), v, some (.int i), some (qdD t), none, none] = .ok (.tup [.int i, .int 1]) := fun v => by simp [evSs, evS, evE.eq_1, evE.eq_2, evE.eq_3, evE.eq_4, evE.eq_5, evE.eq_6, evE.eq_7, evE.eq_8, evE.eq_9, evE.eq_10, evE.eq_11, evE.eq_12, evE.eq_13, evE.eq_14, evE.eq_15, evE.eq_16, evE.eq_17, evE.eq_18, evE.eq_19, evE.eq_20, evE.eq_21, evE.eq_22, evE.eq_23, evE.eq_24, evE.eq_28, evE.eq_30, evE.eq_31, evE.eq_32, evE.eq_33, evE.eq_34, evE.eq_35, evE.eq_36, evE.eq_37, evE.eq_38, evE.eq_39, evE.eq_40, evE.eq_41, evEs, evP, evO, evTo, evT, evAnd, evOr, evTA, evTO, evIt, evB, wp_bind, wp_nx, wp_if, wp_ok, wp_st, ok_bind, ok_nx, ok_rt, EV.R.of_some, rof_if, nxQ_nx, nxQ_rt, wp_noEx, g_0, g_s, s_0, s_s, s_t2, bb, zz, tru_bl, noEx_j, isi_list, isi_int, isi_bool, q_ll, q_llb, lenOk_of, b_add, b_sub, b_mul, b_div, b_mod, b_pow, mulOk_r, mulOk_l, divOk_of, c_lt, c_le, c_gt, c_ge, c_eq, c_ne, c_in, c_ni, dIn_dic, x_lst, x_scr, x_dic, l_lst, l_scr, l_abs, l_int, l_list, l_tup, l_sorted, l_sortedk, i_int, q_lst, q_lstp, q_b, q_bp, q_tup, q_tupp, a_app, a_put, t_0, t_s, rng_of, li_zz, li_bb, li_clean, li_z, pr_zz, pr_bb, pr_clean, pr_z, ll_zz, ll_bb, ll_cleanO, ll_cleanZ, ll_z, clean, isZ, isZs, cleans, zzs, bbs, Fl.bb, dIn_li, dEq_li, dEq_pr, dEq_ll, dEq_int, taint, taints, li_taint, pr_taint, ll_taint, Fl.tt, li_len, pr_len, ll_len, EV.keyOf, List.map_cons, List.map_nil, List.length_cons, List.length_nil, List.set_cons_zero, List.set_cons_succ, Option.map_some, lenOk_of]
      rw [evS, e1, ok_bind, e2, noEx_j, ok_bind, if_pos (by rfl), b2, ok_bind]
      rfl
    exact ⟨_, rfl, _, rfl, _, _, rfl⟩
  · rintro e ⟨v3, v4, rfl⟩
    rw [enum_len, qd_len, List.take_length, nxQ_nx]
    refine step (env' := [some (.tup (li S)), some (.tup (qd T)), some (.lst .z (lvZ S.length T)), v3, v4, none, none]) (by simp [evSs, evS, evE.eq_1, evE.eq_2, evE.eq_3, evE.eq_4, evE.eq_5, evE.eq_6, evE.eq_7, evE.eq_8, evE.eq_9, evE.eq_10, evE.eq_11, evE.eq_12, evE.eq_13, evE.eq_14, evE.eq_15, evE.eq_16, evE.eq_17, evE.eq_18, evE.eq_19, evE.eq_20, evE.eq_21, evE.eq_22, evE.eq_23, evE.eq_24, evE.eq_28, evE.eq_30, evE.eq_31, evE.eq_32, evE.eq_33, evE.eq_34, evE.eq_35, evE.eq_36, evE.eq_37, evE.eq_38, evE.eq_39, evE.eq_40, evE.eq_41, evEs, evP, evO, evTo, evT, evAnd, evOr, evTA, evTO, evIt, evB, wp_bind, wp_nx, wp_if, wp_ok, wp_st, ok_bind, ok_nx, ok_rt, EV.R.of_some, rof_if, nxQ_nx, nxQ_rt, wp_noEx, g_0, g_s, s_0, s_s, s_t2, bb, zz, tru_bl, noEx_j, isi_list, isi_int, isi_bool, q_ll, q_llb, lenOk_of, b_add, b_sub, b_mul, b_div, b_mod, b_pow, mulOk_r, mulOk_l, divOk_of, c_lt, c_le, c_gt, c_ge, c_eq, c_ne, c_in, c_ni, dIn_dic, x_lst, x_scr, x_dic, l_lst, l_scr, l_abs, l_int, l_list, l_tup, l_sorted, l_sortedk, i_int, q_lst, q_lstp, q_b, q_bp, q_tup, q_tupp, a_app, a_put, t_0, t_s, rng_of, li_zz, li_bb, li_clean, li_z, pr_zz, pr_bb, pr_clean, pr_z, ll_zz, ll_bb, ll_cleanO, ll_cleanZ, ll_z, clean, isZ, isZs, cleans, zzs, bbs, Fl.bb, dIn_li, dEq_li, dEq_pr, dEq_ll, dEq_int, taint, taints, li_taint, pr_taint, ll_taint, Fl.tt, li_len, pr_len, ll_len, EV.keyOf, List.map_cons, List.map_nil, List.length_cons, List.length_nil, List.set_cons_zero, List.set_cons_succ, Option.map_some, lvO_zz]) ?_
    refine step_ret (d := .tup (lv S.length T)) ?_ rfl
    rw [evE.eq_22, out12 (by omega), ok_bind]
    simp [l_tup, lv_clean, lv_zz]
theorem places_call {S : List Int} {T : List Tie} (h : WebOk S T) (hl : S.length ≤ 200) (hT : T.length ≤ 300) : callD F12 [.tup (li S), .tup (qd T)] = .ok (.tup (lv S.length T)) :=
  callD_v rfl (by simp only [zzs, zz, li_zz, qd_zz]; exact places_ok h hl hT) (.inl (by simp [cleans, clean, li_clean, qd_clean]))
end K08
namespace K08
open PySem L2 EV
/-- a web, looked at -/
structure Ob (o : D) (S : List Int) (T : List Tie) : Prop where
  sides : dFld "Web" "sides" o = some (.tup (li S))
  ties : dFld "Web" "ties" o = some (.tup (qd T))
  lea : dFld "Web" "_leaving" o = some (.tup (lv S.length T))
  isO : EV.isObj "Web" o = true
  n1 : EV.isObjN "Web" "tail" o = true
  n2 : EV.isObjN "Web" "head" o = true
  n3 : EV.isObjN "Web" "steps_from" o = true
  bb : bb o = o
  zz : zz o = o
  cl : clean o = true
theorem ex_bind {α β : Type} {x : Exc} {f : α → EV.R β} : (EV.R.ex x : EV.R α).bind f = .ex x := rfl
theorem wq_eq {r : EV.R D} {X : Exc} (h : Wq r (fun _ => False) fun x => x = X) : r = .ex X := by
  cases r with
  | ok a => exact h.elim
  | ex x => rw [show x = X from h]
  | st => exact h.elim
/-- a comprehension with a test -/
theorem comp_fil {Φ : Tab} {it : EV.It} {tg : Tg} {own : List Nat} {c : To} {e : C} {env : EV.Env} {α : Type} (xs : List α) (f : α → D) (g : α → Option D) (hi : evIt Φ it true env = .ok (xs.map f)) (hw : tg.within own = true)
    (ht : ∀ x ∈ xs, noEx ((setTg tg (f x) (wipeE env own)).bind fun env' => (evTo Φ c env').bind fun b => if b then (evE Φ e env').bind fun x => .ok (some x) else .ok none) = .ok (g x))
    (hc : ∀ x ∈ xs, ∀ d, g x = some d → clean d = true) (hl : xs.length ≤ sizeLine) : evE Φ (.comp it tg own c e) env = .ok (.lst .o (xs.filterMap g)) := by
  rw [evE, hi, ok_bind, hw]
  simp only [Bool.not_true, Bool.false_eq_true, if_false]
  have key := compL_eq (turn := fun d => noEx ((setTg tg d (wipeE env own)).bind fun env' => (evTo Φ c env').bind fun b => if b then (evE Φ e env').bind fun x => .ok (some x) else .ok none)) (f := f) (g := g) xs []
    ht hc (by simpa using hl)
  rw [key, ok_bind]
  simp
theorem at_qd {T : List Tie} {i : Nat} {t : Tie} (h : T[i]? = some t) : atI (qd T) (i : Int) = some (qdD t) := atI_nat (by rw [qd_get, h]; rfl)
theorem at_lv {n : Nat} {T : List Tie} {p : Int} (h0 : 0 ≤ p) (h1 : p < n) : atI (lv n T) p = some (.tup (pr (st p T))) := by
  rw [atI_ok h0 (by rw [lv_len]; exact h1)]
  simp only [lv, List.getElem_map, List.getElem_range]
  rw [show ((p.toNat : Nat) : Int) = p by omega]
theorem txt_of {x : Int} (h1 : -(10 ^ 30) ≤ x) (h2 : x ≤ 10 ^ 30) : txtOk x = true := by
  cases x with
  | ofNat n => show Nat.ble n _ = true; rw [Nat.ble_eq]; have : (Int.ofNat n) = (n : Int) := rfl; omega
  | negSucc n => show Nat.ble n _ = true; rw [Nat.ble_eq]; omega
def stD (x : Int × Int × Int) : D := .tup [.int x.1, .int x.2.1]
theorem pr_st {p : Int} {T : List Tie} : pr (st p T) = (stq p 0 T).map fun x => D.tup [.int x.1, .int x.2.1] := by simp [pr, st, lo2, List.map_map, Function.comp_def]
section
variable {o : D} {S : List Int} {T : List Tie} (h : Ob o S T)
include h
theorem contains_ok (p : Int) : F13.sem [o, .int p] = .ok (.bl (decide (0 ≤ p ∧ p < S.length))) := by
  refine wp_eq ?_
  simp [F13, runF, dr13, evSs, evS, evE, evEs, evP, evO, evTo, evT, evAnd, evOr, evTA, evTO, evIt, evB, wp_bind, wp_nx, wp_if, wp_ok, wp_st, ok_bind, ok_nx, ok_rt, EV.R.of_some, rof_if, nxQ_nx, nxQ_rt, wp_noEx, g_0, g_s, s_0, s_s, s_t2, bb, zz, tru_bl, noEx_j, isi_list, isi_int, isi_bool, q_ll, q_llb, lenOk_of, b_add, b_sub, b_mul, b_div, b_mod, b_pow, mulOk_r, mulOk_l, divOk_of, c_lt, c_le, c_gt, c_ge, c_eq, c_ne, c_in, c_ni, dIn_dic, x_lst, x_scr, x_dic, l_lst, l_scr, l_abs, l_int, l_list, l_tup, l_sorted, l_sortedk, i_int, q_lst, q_lstp, q_b, q_bp, q_tup, q_tupp, a_app, a_put, t_0, t_s, rng_of, li_zz, li_bb, li_clean, li_z, pr_zz, pr_bb, pr_clean, pr_z, ll_zz, ll_bb, ll_cleanO, ll_cleanZ, ll_z, clean, isZ, isZs, cleans, zzs, bbs, Fl.bb, dIn_li, dEq_li, dEq_pr, dEq_ll, dEq_int, taint, taints, li_taint, pr_taint, ll_taint, Fl.tt, li_len, pr_len, ll_len, EV.keyOf, List.map_cons, List.map_nil, List.length_cons, List.length_nil, List.set_cons_zero, List.set_cons_succ, Option.map_some, h.bb, h.sides, l_ttup, li_len]
theorem contains_call (p : Int) : callD F13 [o, .int p] = .ok (.bl (decide (0 ≤ p ∧ p < S.length))) := callD_v rfl (by simp only [zzs, zz, h.zz]; exact contains_ok h p) (.inr bl_back)
theorem from_ok {p : Int} (h0 : 0 ≤ p) (h1 : p < S.length) : F14.sem [o, .int p] = .ok (.lst .o (pr (st p T))) := by
  refine wp_eq ?_
  simp [F14, runF, dr14, evSs, evS, evE, evEs, evP, evO, evTo, evT, evAnd, evOr, evTA, evTO, evIt, evB, wp_bind, wp_nx, wp_if, wp_ok, wp_st, ok_bind, ok_nx, ok_rt, EV.R.of_some, rof_if, nxQ_nx, nxQ_rt, wp_noEx, g_0, g_s, s_0, s_s, s_t2, bb, zz, tru_bl, noEx_j, isi_list, isi_int, isi_bool, q_ll, q_llb, lenOk_of, b_add, b_sub, b_mul, b_div, b_mod, b_pow, mulOk_r, mulOk_l, divOk_of, c_lt, c_le, c_gt, c_ge, c_eq, c_ne, c_in, c_ni, dIn_dic, x_lst, x_scr, x_dic, l_lst, l_scr, l_abs, l_int, l_list, l_tup, l_sorted, l_sortedk, i_int, q_lst, q_lstp, q_b, q_bp, q_tup, q_tupp, a_app, a_put, t_0, t_s, rng_of, li_zz, li_bb, li_clean, li_z, pr_zz, pr_bb, pr_clean, pr_z, ll_zz, ll_bb, ll_cleanO, ll_cleanZ, ll_z, clean, isZ, isZs, cleans, zzs, bbs, Fl.bb, dIn_li, dEq_li, dEq_pr, dEq_ll, dEq_int, taint, taints, li_taint, pr_taint, ll_taint, Fl.tt, li_len, pr_len, ll_len, EV.keyOf, List.map_cons, List.map_nil, List.length_cons, List.length_nil, List.set_cons_zero, List.set_cons_succ, Option.map_some, t14_13, contains_call h, h.isO, h.bb, dNeg, h0, h1, h.lea, x_tup, at_lv h0 h1, l_listt]
theorem from_call {p : Int} (h0 : 0 ≤ p) (h1 : p < S.length) : callD F14 [o, .int p] = .ok (.lst .o (pr (st p T))) := callD_v rfl (by simp only [zzs, zz, h.zz]; exact from_ok h h0 h1) (.inl (by simp [cleans, clean, h.cl]))
def tl (t : Tie) (d : Int) : Int × Int := if d = 0 then (t.1, t.2.1) else (t.2.2.1, t.2.2.2)
theorem tail_ok {i : Nat} {t : Tie} (d : Int) (ht : T[i]? = some t) : F16.sem [o, .tup [.int i, .int d]] = .ok (.tup [.int (tl t d).1, .int (tl t d).2]) := by
  have hi : i < T.length := (List.getElem?_eq_some_iff.mp ht).1
  refine run_eq ?_
  show Wp (evSs T16 dr16.body [some o, some (.tup [.int i, .int d]), none, none, none, none, none, none]) _
  unfold dr16
  refine step (by simp [evSs, evS, evE.eq_1, evE.eq_2, evE.eq_3, evE.eq_4, evE.eq_5, evE.eq_6, evE.eq_7, evE.eq_8, evE.eq_9, evE.eq_10, evE.eq_11, evE.eq_12, evE.eq_13, evE.eq_14, evE.eq_15, evE.eq_16, evE.eq_17, evE.eq_18, evE.eq_19, evE.eq_20, evE.eq_21, evE.eq_22, evE.eq_23, evE.eq_24, evE.eq_28, evE.eq_30, evE.eq_31, evE.eq_32, evE.eq_33, evE.eq_34, evE.eq_35, evE.eq_36, evE.eq_37, evE.eq_38, evE.eq_39, evE.eq_40, evE.eq_41, evEs, evP, evO, evTo, evT, evAnd, evOr, evTA, evTO, evIt, evB, wp_bind, wp_nx, wp_if, wp_ok, wp_st, ok_bind, ok_nx, ok_rt, EV.R.of_some, rof_if, nxQ_nx, nxQ_rt, wp_noEx, g_0, g_s, s_0, s_s, s_t2, bb, zz, tru_bl, noEx_j, isi_list, isi_int, isi_bool, q_ll, q_llb, lenOk_of, b_add, b_sub, b_mul, b_div, b_mod, b_pow, mulOk_r, mulOk_l, divOk_of, c_lt, c_le, c_gt, c_ge, c_eq, c_ne, c_in, c_ni, dIn_dic, x_lst, x_scr, x_dic, l_lst, l_scr, l_abs, l_int, l_list, l_tup, l_sorted, l_sortedk, i_int, q_lst, q_lstp, q_b, q_bp, q_tup, q_tupp, a_app, a_put, t_0, t_s, rng_of, li_zz, li_bb, li_clean, li_z, pr_zz, pr_bb, pr_clean, pr_z, ll_zz, ll_bb, ll_cleanO, ll_cleanZ, ll_z, clean, isZ, isZs, cleans, zzs, bbs, Fl.bb, dIn_li, dEq_li, dEq_pr, dEq_ll, dEq_int, taint, taints, li_taint, pr_taint, ll_taint, Fl.tt, li_len, pr_len, ll_len, EV.keyOf, List.map_cons, List.map_nil, List.length_cons, List.length_nil, List.set_cons_zero, List.set_cons_succ, Option.map_some] <;> rfl) ?_
  refine step_no (by simp [evSs, evS, evE.eq_1, evE.eq_2, evE.eq_3, evE.eq_4, evE.eq_5, evE.eq_6, evE.eq_7, evE.eq_8, evE.eq_9, evE.eq_10, evE.eq_11, evE.eq_12, evE.eq_13, evE.eq_14, evE.eq_15, evE.eq_16, evE.eq_17, evE.eq_18, evE.eq_19, evE.eq_20, evE.eq_21, evE.eq_22, evE.eq_23, evE.eq_24, evE.eq_28, evE.eq_30, evE.eq_31, evE.eq_32, evE.eq_33, evE.eq_34, evE.eq_35, evE.eq_36, evE.eq_37, evE.eq_38, evE.eq_39, evE.eq_40, evE.eq_41, evEs, evP, evO, evTo, evT, evAnd, evOr, evTA, evTO, evIt, evB, wp_bind, wp_nx, wp_if, wp_ok, wp_st, ok_bind, ok_nx, ok_rt, EV.R.of_some, rof_if, nxQ_nx, nxQ_rt, wp_noEx, g_0, g_s, s_0, s_s, s_t2, bb, zz, tru_bl, noEx_j, isi_list, isi_int, isi_bool, q_ll, q_llb, lenOk_of, b_add, b_sub, b_mul, b_div, b_mod, b_pow, mulOk_r, mulOk_l, divOk_of, c_lt, c_le, c_gt, c_ge, c_eq, c_ne, c_in, c_ni, dIn_dic, x_lst, x_scr, x_dic, l_lst, l_scr, l_abs, l_int, l_list, l_tup, l_sorted, l_sortedk, i_int, q_lst, q_lstp, q_b, q_bp, q_tup, q_tupp, a_app, a_put, t_0, t_s, rng_of, li_zz, li_bb, li_clean, li_z, pr_zz, pr_bb, pr_clean, pr_z, ll_zz, ll_bb, ll_cleanO, ll_cleanZ, ll_z, clean, isZ, isZs, cleans, zzs, bbs, Fl.bb, dIn_li, dEq_li, dEq_pr, dEq_ll, dEq_int, taint, taints, li_taint, pr_taint, ll_taint, Fl.tt, li_len, pr_len, ll_len, EV.keyOf, List.map_cons, List.map_nil, List.length_cons, List.length_nil, List.set_cons_zero, List.set_cons_succ, Option.map_some, h.bb, h.ties, l_ttup, qd_len, hi]) ?_
  refine a_t4 (t := t) (env' := [some o, some (.tup [.int i, .int d]), some (.int i), some (.int d), some (.int t.1), some (.int t.2.1), some (.int t.2.2.1), some (.int t.2.2.2)]) (by simp [evSs, evS, evE.eq_1, evE.eq_2, evE.eq_3, evE.eq_4, evE.eq_5, evE.eq_6, evE.eq_7, evE.eq_8, evE.eq_9, evE.eq_10, evE.eq_11, evE.eq_12, evE.eq_13, evE.eq_14, evE.eq_15, evE.eq_16, evE.eq_17, evE.eq_18, evE.eq_19, evE.eq_20, evE.eq_21, evE.eq_22, evE.eq_23, evE.eq_24, evE.eq_28, evE.eq_30, evE.eq_31, evE.eq_32, evE.eq_33, evE.eq_34, evE.eq_35, evE.eq_36, evE.eq_37, evE.eq_38, evE.eq_39, evE.eq_40, evE.eq_41, evEs, evP, evO, evTo, evT, evAnd, evOr, evTA, evTO, evIt, evB, wp_bind, wp_nx, wp_if, wp_ok, wp_st, ok_bind, ok_nx, ok_rt, EV.R.of_some, rof_if, nxQ_nx, nxQ_rt, wp_noEx, g_0, g_s, s_0, s_s, s_t2, bb, zz, tru_bl, noEx_j, isi_list, isi_int, isi_bool, q_ll, q_llb, lenOk_of, b_add, b_sub, b_mul, b_div, b_mod, b_pow, mulOk_r, mulOk_l, divOk_of, c_lt, c_le, c_gt, c_ge, c_eq, c_ne, c_in, c_ni, dIn_dic, x_lst, x_scr, x_dic, l_lst, l_scr, l_abs, l_int, l_list, l_tup, l_sorted, l_sortedk, i_int, q_lst, q_lstp, q_b, q_bp, q_tup, q_tupp, a_app, a_put, t_0, t_s, rng_of, li_zz, li_bb, li_clean, li_z, pr_zz, pr_bb, pr_clean, pr_z, ll_zz, ll_bb, ll_cleanO, ll_cleanZ, ll_z, clean, isZ, isZs, cleans, zzs, bbs, Fl.bb, dIn_li, dEq_li, dEq_pr, dEq_ll, dEq_int, taint, taints, li_taint, pr_taint, ll_taint, Fl.tt, li_len, pr_len, ll_len, EV.keyOf, List.map_cons, List.map_nil, List.length_cons, List.length_nil, List.set_cons_zero, List.set_cons_succ, Option.map_some, h.bb, h.ties, x_tup, at_qd ht]) (by simp [evSs, evS, evE.eq_1, evE.eq_2, evE.eq_3, evE.eq_4, evE.eq_5, evE.eq_6, evE.eq_7, evE.eq_8, evE.eq_9, evE.eq_10, evE.eq_11, evE.eq_12, evE.eq_13, evE.eq_14, evE.eq_15, evE.eq_16, evE.eq_17, evE.eq_18, evE.eq_19, evE.eq_20, evE.eq_21, evE.eq_22, evE.eq_23, evE.eq_24, evE.eq_28, evE.eq_30, evE.eq_31, evE.eq_32, evE.eq_33, evE.eq_34, evE.eq_35, evE.eq_36, evE.eq_37, evE.eq_38, evE.eq_39, evE.eq_40, evE.eq_41, evEs, evP, evO, evTo, evT, evAnd, evOr, evTA, evTO, evIt, evB, wp_bind, wp_nx, wp_if, wp_ok, wp_st, ok_bind, ok_nx, ok_rt, EV.R.of_some, rof_if, nxQ_nx, nxQ_rt, wp_noEx, g_0, g_s, s_0, s_s, s_t2, bb, zz, tru_bl, noEx_j, isi_list, isi_int, isi_bool, q_ll, q_llb, lenOk_of, b_add, b_sub, b_mul, b_div, b_mod, b_pow, mulOk_r, mulOk_l, divOk_of, c_lt, c_le, c_gt, c_ge, c_eq, c_ne, c_in, c_ni, dIn_dic, x_lst, x_scr, x_dic, l_lst, l_scr, l_abs, l_int, l_list, l_tup, l_sorted, l_sortedk, i_int, q_lst, q_lstp, q_b, q_bp, q_tup, q_tupp, a_app, a_put, t_0, t_s, rng_of, li_zz, li_bb, li_clean, li_z, pr_zz, pr_bb, pr_clean, pr_z, ll_zz, ll_bb, ll_cleanO, ll_cleanZ, ll_z, clean, isZ, isZs, cleans, zzs, bbs, Fl.bb, dIn_li, dEq_li, dEq_pr, dEq_ll, dEq_int, taint, taints, li_taint, pr_taint, ll_taint, Fl.tt, li_len, pr_len, ll_len, EV.keyOf, List.map_cons, List.map_nil, List.length_cons, List.length_nil, List.set_cons_zero, List.set_cons_succ, Option.map_some]) ?_
  unfold tl
  by_cases hd : d = 0
  · refine step_yes (by simp [evSs, evS, evE.eq_1, evE.eq_2, evE.eq_3, evE.eq_4, evE.eq_5, evE.eq_6, evE.eq_7, evE.eq_8, evE.eq_9, evE.eq_10, evE.eq_11, evE.eq_12, evE.eq_13, evE.eq_14, evE.eq_15, evE.eq_16, evE.eq_17, evE.eq_18, evE.eq_19, evE.eq_20, evE.eq_21, evE.eq_22, evE.eq_23, evE.eq_24, evE.eq_28, evE.eq_30, evE.eq_31, evE.eq_32, evE.eq_33, evE.eq_34, evE.eq_35, evE.eq_36, evE.eq_37, evE.eq_38, evE.eq_39, evE.eq_40, evE.eq_41, evEs, evP, evO, evTo, evT, evAnd, evOr, evTA, evTO, evIt, evB, wp_bind, wp_nx, wp_if, wp_ok, wp_st, ok_bind, ok_nx, ok_rt, EV.R.of_some, rof_if, nxQ_nx, nxQ_rt, wp_noEx, g_0, g_s, s_0, s_s, s_t2, bb, zz, tru_bl, noEx_j, isi_list, isi_int, isi_bool, q_ll, q_llb, lenOk_of, b_add, b_sub, b_mul, b_div, b_mod, b_pow, mulOk_r, mulOk_l, divOk_of, c_lt, c_le, c_gt, c_ge, c_eq, c_ne, c_in, c_ni, dIn_dic, x_lst, x_scr, x_dic, l_lst, l_scr, l_abs, l_int, l_list, l_tup, l_sorted, l_sortedk, i_int, q_lst, q_lstp, q_b, q_bp, q_tup, q_tupp, a_app, a_put, t_0, t_s, rng_of, li_zz, li_bb, li_clean, li_z, pr_zz, pr_bb, pr_clean, pr_z, ll_zz, ll_bb, ll_cleanO, ll_cleanZ, ll_z, clean, isZ, isZs, cleans, zzs, bbs, Fl.bb, dIn_li, dEq_li, dEq_pr, dEq_ll, dEq_int, taint, taints, li_taint, pr_taint, ll_taint, Fl.tt, li_len, pr_len, ll_len, EV.keyOf, List.map_cons, List.map_nil, List.length_cons, List.length_nil, List.set_cons_zero, List.set_cons_succ, Option.map_some, hd]) ?_
    refine step_ret (d := .tup [.int t.1, .int t.2.1]) (by simp [evSs, evS, evE.eq_1, evE.eq_2, evE.eq_3, evE.eq_4, evE.eq_5, evE.eq_6, evE.eq_7, evE.eq_8, evE.eq_9, evE.eq_10, evE.eq_11, evE.eq_12, evE.eq_13, evE.eq_14, evE.eq_15, evE.eq_16, evE.eq_17, evE.eq_18, evE.eq_19, evE.eq_20, evE.eq_21, evE.eq_22, evE.eq_23, evE.eq_24, evE.eq_28, evE.eq_30, evE.eq_31, evE.eq_32, evE.eq_33, evE.eq_34, evE.eq_35, evE.eq_36, evE.eq_37, evE.eq_38, evE.eq_39, evE.eq_40, evE.eq_41, evEs, evP, evO, evTo, evT, evAnd, evOr, evTA, evTO, evIt, evB, wp_bind, wp_nx, wp_if, wp_ok, wp_st, ok_bind, ok_nx, ok_rt, EV.R.of_some, rof_if, nxQ_nx, nxQ_rt, wp_noEx, g_0, g_s, s_0, s_s, s_t2, bb, zz, tru_bl, noEx_j, isi_list, isi_int, isi_bool, q_ll, q_llb, lenOk_of, b_add, b_sub, b_mul, b_div, b_mod, b_pow, mulOk_r, mulOk_l, divOk_of, c_lt, c_le, c_gt, c_ge, c_eq, c_ne, c_in, c_ni, dIn_dic, x_lst, x_scr, x_dic, l_lst, l_scr, l_abs, l_int, l_list, l_tup, l_sorted, l_sortedk, i_int, q_lst, q_lstp, q_b, q_bp, q_tup, q_tupp, a_app, a_put, t_0, t_s, rng_of, li_zz, li_bb, li_clean, li_z, pr_zz, pr_bb, pr_clean, pr_z, ll_zz, ll_bb, ll_cleanO, ll_cleanZ, ll_z, clean, isZ, isZs, cleans, zzs, bbs, Fl.bb, dIn_li, dEq_li, dEq_pr, dEq_ll, dEq_int, taint, taints, li_taint, pr_taint, ll_taint, Fl.tt, li_len, pr_len, ll_len, EV.keyOf, List.map_cons, List.map_nil, List.length_cons, List.length_nil, List.set_cons_zero, List.set_cons_succ, Option.map_some]) ?_
    rw [if_pos hd]; rfl
  · refine step_no (by simp [evSs, evS, evE.eq_1, evE.eq_2, evE.eq_3, evE.eq_4, evE.eq_5, evE.eq_6, evE.eq_7, evE.eq_8, evE.eq_9, evE.eq_10, evE.eq_11, evE.eq_12, evE.eq_13, evE.eq_14, evE.eq_15, evE.eq_16, evE.eq_17, evE.eq_18, evE.eq_19, evE.eq_20, evE.eq_21, evE.eq_22, evE.eq_23, evE.eq_24, evE.eq_28, evE.eq_30, evE.eq_31, evE.eq_32, evE.eq_33, evE.eq_34, evE.eq_35, evE.eq_36, evE.eq_37, evE.eq_38, evE.eq_39, evE.eq_40, evE.eq_41, evEs, evP, evO, evTo, evT, evAnd, evOr, evTA, evTO, evIt, evB, wp_bind, wp_nx, wp_if, wp_ok, wp_st, ok_bind, ok_nx, ok_rt, EV.R.of_some, rof_if, nxQ_nx, nxQ_rt, wp_noEx, g_0, g_s, s_0, s_s, s_t2, bb, zz, tru_bl, noEx_j, isi_list, isi_int, isi_bool, q_ll, q_llb, lenOk_of, b_add, b_sub, b_mul, b_div, b_mod, b_pow, mulOk_r, mulOk_l, divOk_of, c_lt, c_le, c_gt, c_ge, c_eq, c_ne, c_in, c_ni, dIn_dic, x_lst, x_scr, x_dic, l_lst, l_scr, l_abs, l_int, l_list, l_tup, l_sorted, l_sortedk, i_int, q_lst, q_lstp, q_b, q_bp, q_tup, q_tupp, a_app, a_put, t_0, t_s, rng_of, li_zz, li_bb, li_clean, li_z, pr_zz, pr_bb, pr_clean, pr_z, ll_zz, ll_bb, ll_cleanO, ll_cleanZ, ll_z, clean, isZ, isZs, cleans, zzs, bbs, Fl.bb, dIn_li, dEq_li, dEq_pr, dEq_ll, dEq_int, taint, taints, li_taint, pr_taint, ll_taint, Fl.tt, li_len, pr_len, ll_len, EV.keyOf, List.map_cons, List.map_nil, List.length_cons, List.length_nil, List.set_cons_zero, List.set_cons_succ, Option.map_some, hd]) ?_
    refine step_ret (d := .tup [.int t.2.2.1, .int t.2.2.2]) (by simp [evSs, evS, evE.eq_1, evE.eq_2, evE.eq_3, evE.eq_4, evE.eq_5, evE.eq_6, evE.eq_7, evE.eq_8, evE.eq_9, evE.eq_10, evE.eq_11, evE.eq_12, evE.eq_13, evE.eq_14, evE.eq_15, evE.eq_16, evE.eq_17, evE.eq_18, evE.eq_19, evE.eq_20, evE.eq_21, evE.eq_22, evE.eq_23, evE.eq_24, evE.eq_28, evE.eq_30, evE.eq_31, evE.eq_32, evE.eq_33, evE.eq_34, evE.eq_35, evE.eq_36, evE.eq_37, evE.eq_38, evE.eq_39, evE.eq_40, evE.eq_41, evEs, evP, evO, evTo, evT, evAnd, evOr, evTA, evTO, evIt, evB, wp_bind, wp_nx, wp_if, wp_ok, wp_st, ok_bind, ok_nx, ok_rt, EV.R.of_some, rof_if, nxQ_nx, nxQ_rt, wp_noEx, g_0, g_s, s_0, s_s, s_t2, bb, zz, tru_bl, noEx_j, isi_list, isi_int, isi_bool, q_ll, q_llb, lenOk_of, b_add, b_sub, b_mul, b_div, b_mod, b_pow, mulOk_r, mulOk_l, divOk_of, c_lt, c_le, c_gt, c_ge, c_eq, c_ne, c_in, c_ni, dIn_dic, x_lst, x_scr, x_dic, l_lst, l_scr, l_abs, l_int, l_list, l_tup, l_sorted, l_sortedk, i_int, q_lst, q_lstp, q_b, q_bp, q_tup, q_tupp, a_app, a_put, t_0, t_s, rng_of, li_zz, li_bb, li_clean, li_z, pr_zz, pr_bb, pr_clean, pr_z, ll_zz, ll_bb, ll_cleanO, ll_cleanZ, ll_z, clean, isZ, isZs, cleans, zzs, bbs, Fl.bb, dIn_li, dEq_li, dEq_pr, dEq_ll, dEq_int, taint, taints, li_taint, pr_taint, ll_taint, Fl.tt, li_len, pr_len, ll_len, EV.keyOf, List.map_cons, List.map_nil, List.length_cons, List.length_nil, List.set_cons_zero, List.set_cons_succ, Option.map_some]) ?_
    rw [if_neg hd]
theorem tail_call {i : Nat} {t : Tie} (d : Int) (ht : T[i]? = some t) : callD F16 [o, .tup [.int i, .int d]] = .ok (.tup [.int (tl t d).1, .int (tl t d).2]) := callD_v rfl (by simp only [zzs, zz, h.zz]; exact tail_ok h d ht) (.inl (by simp [cleans, clean, h.cl]))
def xT (i : Int) : Exc := ⟨"UnknownTie", ["tie"], [.int i]⟩
omit h in
theorem unk_ok (i : Int) (h1 : -(10 ^ 30) ≤ i) (h2 : i ≤ 10 ^ 30) : F15.sem [.int i] = .ok (.obj .z "UnknownTie" ["tie"] [.int i]) := by
  simp [F15, semX, intsOf, txt_of h1 h2]
omit h in
theorem n15 : F15.n = 2 := rfl
theorem tail_bad {i : Int} (d : Int) (hi : i < 0 ∨ (T.length : Int) ≤ i) (h1 : -(10 ^ 30) ≤ i) (h2 : i ≤ 10 ^ 30) : F16.sem [o, .tup [.int i, .int d]] = .ex (xT i) := by
  have hn : ¬ (0 ≤ i ∧ i < (T.length : Int)) := by omega
  have e1 : evS T16 (.asg (.tup [2, 3]) (.slot 1)) [some o, some (.tup [.int i, .int d]), none, none, none, none, none, none] = .ok (.nx [some o, some (.tup [.int i, .int d]), some (.int i), some (.int d), none, none, none, none]) := by simp [evSs, evS, evE.eq_1, evE.eq_2, evE.eq_3, evE.eq_4, evE.eq_5, evE.eq_6, evE.eq_7, evE.eq_8, evE.eq_9, evE.eq_10, evE.eq_11, evE.eq_12, evE.eq_13, evE.eq_14, evE.eq_15, evE.eq_16, evE.eq_17, evE.eq_18, evE.eq_19, evE.eq_20, evE.eq_21, evE.eq_22, evE.eq_23, evE.eq_24, evE.eq_28, evE.eq_30, evE.eq_31, evE.eq_32, evE.eq_33, evE.eq_34, evE.eq_35, evE.eq_36, evE.eq_37, evE.eq_38, evE.eq_39, evE.eq_40, evE.eq_41, evEs, evP, evO, evTo, evT, evAnd, evOr, evTA, evTO, evIt, evB, wp_bind, wp_nx, wp_if, wp_ok, wp_st, ok_bind, ok_nx, ok_rt, EV.R.of_some, rof_if, nxQ_nx, nxQ_rt, wp_noEx, g_0, g_s, s_0, s_s, s_t2, bb, zz, tru_bl, noEx_j, isi_list, isi_int, isi_bool, q_ll, q_llb, lenOk_of, b_add, b_sub, b_mul, b_div, b_mod, b_pow, mulOk_r, mulOk_l, divOk_of, c_lt, c_le, c_gt, c_ge, c_eq, c_ne, c_in, c_ni, dIn_dic, x_lst, x_scr, x_dic, l_lst, l_scr, l_abs, l_int, l_list, l_tup, l_sorted, l_sortedk, i_int, q_lst, q_lstp, q_b, q_bp, q_tup, q_tupp, a_app, a_put, t_0, t_s, rng_of, li_zz, li_bb, li_clean, li_z, pr_zz, pr_bb, pr_clean, pr_z, ll_zz, ll_bb, ll_cleanO, ll_cleanZ, ll_z, clean, isZ, isZs, cleans, zzs, bbs, Fl.bb, dIn_li, dEq_li, dEq_pr, dEq_ll, dEq_int, taint, taints, li_taint, pr_taint, ll_taint, Fl.tt, li_len, pr_len, ll_len, EV.keyOf, List.map_cons, List.map_nil, List.length_cons, List.length_nil, List.set_cons_zero, List.set_cons_succ, Option.map_some]
  have e2 : evT T16 (.b (.inR true (.slot 2) .none (.blt .len (.fld "Web" "ties" (.slot 0))))) [some o, some (.tup [.int i, .int d]), some (.int i), some (.int d), none, none, none, none] = .ok true := by
    simp [evSs, evS, evE.eq_1, evE.eq_2, evE.eq_3, evE.eq_4, evE.eq_5, evE.eq_6, evE.eq_7, evE.eq_8, evE.eq_9, evE.eq_10, evE.eq_11, evE.eq_12, evE.eq_13, evE.eq_14, evE.eq_15, evE.eq_16, evE.eq_17, evE.eq_18, evE.eq_19, evE.eq_20, evE.eq_21, evE.eq_22, evE.eq_23, evE.eq_24, evE.eq_28, evE.eq_30, evE.eq_31, evE.eq_32, evE.eq_33, evE.eq_34, evE.eq_35, evE.eq_36, evE.eq_37, evE.eq_38, evE.eq_39, evE.eq_40, evE.eq_41, evEs, evP, evO, evTo, evT, evAnd, evOr, evTA, evTO, evIt, evB, wp_bind, wp_nx, wp_if, wp_ok, wp_st, ok_bind, ok_nx, ok_rt, EV.R.of_some, rof_if, nxQ_nx, nxQ_rt, wp_noEx, g_0, g_s, s_0, s_s, s_t2, bb, zz, tru_bl, noEx_j, isi_list, isi_int, isi_bool, q_ll, q_llb, lenOk_of, b_add, b_sub, b_mul, b_div, b_mod, b_pow, mulOk_r, mulOk_l, divOk_of, c_lt, c_le, c_gt, c_ge, c_eq, c_ne, c_in, c_ni, dIn_dic, x_lst, x_scr, x_dic, l_lst, l_scr, l_abs, l_int, l_list, l_tup, l_sorted, l_sortedk, i_int, q_lst, q_lstp, q_b, q_bp, q_tup, q_tupp, a_app, a_put, t_0, t_s, rng_of, li_zz, li_bb, li_clean, li_z, pr_zz, pr_bb, pr_clean, pr_z, ll_zz, ll_bb, ll_cleanO, ll_cleanZ, ll_z, clean, isZ, isZs, cleans, zzs, bbs, Fl.bb, dIn_li, dEq_li, dEq_pr, dEq_ll, dEq_int, taint, taints, li_taint, pr_taint, ll_taint, Fl.tt, li_len, pr_len, ll_len, EV.keyOf, List.map_cons, List.map_nil, List.length_cons, List.length_nil, List.set_cons_zero, List.set_cons_succ, Option.map_some, h.bb, h.ties, l_ttup, qd_len]; omega
  have e3 : evS T16 (.raise "UnknownTie" 15 (.cons (.slot 2) .nil)) [some o, some (.tup [.int i, .int d]), some (.int i), some (.int d), none, none, none, none] = .ex (xT i) := by
    simp [evSs, evS, evE.eq_1, evE.eq_2, evE.eq_3, evE.eq_4, evE.eq_5, evE.eq_6, evE.eq_7, evE.eq_8, evE.eq_9, evE.eq_10, evE.eq_11, evE.eq_12, evE.eq_13, evE.eq_14, evE.eq_15, evE.eq_16, evE.eq_17, evE.eq_18, evE.eq_19, evE.eq_20, evE.eq_21, evE.eq_22, evE.eq_23, evE.eq_24, evE.eq_28, evE.eq_30, evE.eq_31, evE.eq_32, evE.eq_33, evE.eq_34, evE.eq_35, evE.eq_36, evE.eq_37, evE.eq_38, evE.eq_39, evE.eq_40, evE.eq_41, evEs, evP, evO, evTo, evT, evAnd, evOr, evTA, evTO, evIt, evB, wp_bind, wp_nx, wp_if, wp_ok, wp_st, ok_bind, ok_nx, ok_rt, EV.R.of_some, rof_if, nxQ_nx, nxQ_rt, wp_noEx, g_0, g_s, s_0, s_s, s_t2, bb, zz, tru_bl, noEx_j, isi_list, isi_int, isi_bool, q_ll, q_llb, lenOk_of, b_add, b_sub, b_mul, b_div, b_mod, b_pow, mulOk_r, mulOk_l, divOk_of, c_lt, c_le, c_gt, c_ge, c_eq, c_ne, c_in, c_ni, dIn_dic, x_lst, x_scr, x_dic, l_lst, l_scr, l_abs, l_int, l_list, l_tup, l_sorted, l_sortedk, i_int, q_lst, q_lstp, q_b, q_bp, q_tup, q_tupp, a_app, a_put, t_0, t_s, rng_of, li_zz, li_bb, li_clean, li_z, pr_zz, pr_bb, pr_clean, pr_z, ll_zz, ll_bb, ll_cleanO, ll_cleanZ, ll_z, clean, isZ, isZs, cleans, zzs, bbs, Fl.bb, dIn_li, dEq_li, dEq_pr, dEq_ll, dEq_int, taint, taints, li_taint, pr_taint, ll_taint, Fl.tt, li_len, pr_len, ll_len, EV.keyOf, List.map_cons, List.map_nil, List.length_cons, List.length_nil, List.set_cons_zero, List.set_cons_succ, Option.map_some, t16_15, unk_ok i h1 h2, n15, flats, flat, xT]
  show runF T16 8 dr16.body _ = _
  have e4 : evSs T16 dr16.body [some o, some (.tup [.int i, .int d]), none, none, none, none, none, none] = .ex (xT i) := by
    unfold dr16
    rw [evSs, e1, ok_nx, evSs, evS, e2, ok_bind]
    show EV.R.nx (evSs T16 (.cons (.raise "UnknownTie" 15 (.cons (.slot 2) .nil)) .nil) _) _ = _
    rw [evSs, e3]
    rfl
  show EV.R.bind (evSs T16 dr16.body [some o, some (.tup [.int i, .int d]), none, none, none, none, none, none]) _ = _
  rw [e4]; rfl
theorem tail_badC {i : Int} (d : Int) (hi : i < 0 ∨ (T.length : Int) ≤ i) (h1 : -(10 ^ 30) ≤ i) (h2 : i ≤ 10 ^ 30) : callD F16 [o, .tup [.int i, .int d]] = .ex (xT i) := by
  have hc : cleans [o, .tup [.int i, .int d]] = true := by simp [cleans, clean, h.cl]
  rw [callD_z rfl hc]
  simp only [zzs, zz, h.zz]
  exact tail_bad h d hi h1 h2
theorem head_ok {i : Nat} {t : Tie} (d : Int) (ht : T[i]? = some t) : F22.sem [o, .tup [.int i, .int d]] = .ok (.tup [.int (tl t (1 - d)).1, .int (tl t (1 - d)).2]) := by
  refine run_eq ?_
  show Wp (evSs T22 dr22.body [some o, some (.tup [.int i, .int d]), none, none]) _
  unfold dr22
  refine step (by simp [evSs, evS, evE.eq_1, evE.eq_2, evE.eq_3, evE.eq_4, evE.eq_5, evE.eq_6, evE.eq_7, evE.eq_8, evE.eq_9, evE.eq_10, evE.eq_11, evE.eq_12, evE.eq_13, evE.eq_14, evE.eq_15, evE.eq_16, evE.eq_17, evE.eq_18, evE.eq_19, evE.eq_20, evE.eq_21, evE.eq_22, evE.eq_23, evE.eq_24, evE.eq_28, evE.eq_30, evE.eq_31, evE.eq_32, evE.eq_33, evE.eq_34, evE.eq_35, evE.eq_36, evE.eq_37, evE.eq_38, evE.eq_39, evE.eq_40, evE.eq_41, evEs, evP, evO, evTo, evT, evAnd, evOr, evTA, evTO, evIt, evB, wp_bind, wp_nx, wp_if, wp_ok, wp_st, ok_bind, ok_nx, ok_rt, EV.R.of_some, rof_if, nxQ_nx, nxQ_rt, wp_noEx, g_0, g_s, s_0, s_s, s_t2, bb, zz, tru_bl, noEx_j, isi_list, isi_int, isi_bool, q_ll, q_llb, lenOk_of, b_add, b_sub, b_mul, b_div, b_mod, b_pow, mulOk_r, mulOk_l, divOk_of, c_lt, c_le, c_gt, c_ge, c_eq, c_ne, c_in, c_ni, dIn_dic, x_lst, x_scr, x_dic, l_lst, l_scr, l_abs, l_int, l_list, l_tup, l_sorted, l_sortedk, i_int, q_lst, q_lstp, q_b, q_bp, q_tup, q_tupp, a_app, a_put, t_0, t_s, rng_of, li_zz, li_bb, li_clean, li_z, pr_zz, pr_bb, pr_clean, pr_z, ll_zz, ll_bb, ll_cleanO, ll_cleanZ, ll_z, clean, isZ, isZs, cleans, zzs, bbs, Fl.bb, dIn_li, dEq_li, dEq_pr, dEq_ll, dEq_int, taint, taints, li_taint, pr_taint, ll_taint, Fl.tt, li_len, pr_len, ll_len, EV.keyOf, List.map_cons, List.map_nil, List.length_cons, List.length_nil, List.set_cons_zero, List.set_cons_succ, Option.map_some] <;> rfl) ?_
  exact step_ret (d := .tup [.int (tl t (1 - d)).1, .int (tl t (1 - d)).2]) (by simp [evSs, evS, evE.eq_1, evE.eq_2, evE.eq_3, evE.eq_4, evE.eq_5, evE.eq_6, evE.eq_7, evE.eq_8, evE.eq_9, evE.eq_10, evE.eq_11, evE.eq_12, evE.eq_13, evE.eq_14, evE.eq_15, evE.eq_16, evE.eq_17, evE.eq_18, evE.eq_19, evE.eq_20, evE.eq_21, evE.eq_22, evE.eq_23, evE.eq_24, evE.eq_28, evE.eq_30, evE.eq_31, evE.eq_32, evE.eq_33, evE.eq_34, evE.eq_35, evE.eq_36, evE.eq_37, evE.eq_38, evE.eq_39, evE.eq_40, evE.eq_41, evEs, evP, evO, evTo, evT, evAnd, evOr, evTA, evTO, evIt, evB, wp_bind, wp_nx, wp_if, wp_ok, wp_st, ok_bind, ok_nx, ok_rt, EV.R.of_some, rof_if, nxQ_nx, nxQ_rt, wp_noEx, g_0, g_s, s_0, s_s, s_t2, bb, zz, tru_bl, noEx_j, isi_list, isi_int, isi_bool, q_ll, q_llb, lenOk_of, b_add, b_sub, b_mul, b_div, b_mod, b_pow, mulOk_r, mulOk_l, divOk_of, c_lt, c_le, c_gt, c_ge, c_eq, c_ne, c_in, c_ni, dIn_dic, x_lst, x_scr, x_dic, l_lst, l_scr, l_abs, l_int, l_list, l_tup, l_sorted, l_sortedk, i_int, q_lst, q_lstp, q_b, q_bp, q_tup, q_tupp, a_app, a_put, t_0, t_s, rng_of, li_zz, li_bb, li_clean, li_z, pr_zz, pr_bb, pr_clean, pr_z, ll_zz, ll_bb, ll_cleanO, ll_cleanZ, ll_z, clean, isZ, isZs, cleans, zzs, bbs, Fl.bb, dIn_li, dEq_li, dEq_pr, dEq_ll, dEq_int, taint, taints, li_taint, pr_taint, ll_taint, Fl.tt, li_len, pr_len, ll_len, EV.keyOf, List.map_cons, List.map_nil, List.length_cons, List.length_nil, List.set_cons_zero, List.set_cons_succ, Option.map_some, h.bb, h.n1, t22_16, tail_call h (1 - d) ht]) rfl
theorem head_call {i : Nat} {t : Tie} (d : Int) (ht : T[i]? = some t) : callD F22 [o, .tup [.int i, .int d]] = .ok (.tup [.int (tl t (1 - d)).1, .int (tl t (1 - d)).2]) := callD_v rfl (by simp only [zzs, zz, h.zz]; exact head_ok h d ht) (.inl (by simp [cleans, clean, h.cl]))
theorem head_bad {i : Int} (d : Int) (hi : i < 0 ∨ (T.length : Int) ≤ i) (h1 : -(10 ^ 30) ≤ i) (h2 : i ≤ 10 ^ 30) : F22.sem [o, .tup [.int i, .int d]] = .ex (xT i) := by
  have e1 : evS T22 (.asg (.tup [2, 3]) (.slot 1)) [some o, some (.tup [.int i, .int d]), none, none] = .ok (.nx [some o, some (.tup [.int i, .int d]), some (.int i), some (.int d)]) := by simp [evSs, evS, evE.eq_1, evE.eq_2, evE.eq_3, evE.eq_4, evE.eq_5, evE.eq_6, evE.eq_7, evE.eq_8, evE.eq_9, evE.eq_10, evE.eq_11, evE.eq_12, evE.eq_13, evE.eq_14, evE.eq_15, evE.eq_16, evE.eq_17, evE.eq_18, evE.eq_19, evE.eq_20, evE.eq_21, evE.eq_22, evE.eq_23, evE.eq_24, evE.eq_28, evE.eq_30, evE.eq_31, evE.eq_32, evE.eq_33, evE.eq_34, evE.eq_35, evE.eq_36, evE.eq_37, evE.eq_38, evE.eq_39, evE.eq_40, evE.eq_41, evEs, evP, evO, evTo, evT, evAnd, evOr, evTA, evTO, evIt, evB, wp_bind, wp_nx, wp_if, wp_ok, wp_st, ok_bind, ok_nx, ok_rt, EV.R.of_some, rof_if, nxQ_nx, nxQ_rt, wp_noEx, g_0, g_s, s_0, s_s, s_t2, bb, zz, tru_bl, noEx_j, isi_list, isi_int, isi_bool, q_ll, q_llb, lenOk_of, b_add, b_sub, b_mul, b_div, b_mod, b_pow, mulOk_r, mulOk_l, divOk_of, c_lt, c_le, c_gt, c_ge, c_eq, c_ne, c_in, c_ni, dIn_dic, x_lst, x_scr, x_dic, l_lst, l_scr, l_abs, l_int, l_list, l_tup, l_sorted, l_sortedk, i_int, q_lst, q_lstp, q_b, q_bp, q_tup, q_tupp, a_app, a_put, t_0, t_s, rng_of, li_zz, li_bb, li_clean, li_z, pr_zz, pr_bb, pr_clean, pr_z, ll_zz, ll_bb, ll_cleanO, ll_cleanZ, ll_z, clean, isZ, isZs, cleans, zzs, bbs, Fl.bb, dIn_li, dEq_li, dEq_pr, dEq_ll, dEq_int, taint, taints, li_taint, pr_taint, ll_taint, Fl.tt, li_len, pr_len, ll_len, EV.keyOf, List.map_cons, List.map_nil, List.length_cons, List.length_nil, List.set_cons_zero, List.set_cons_succ, Option.map_some]
  have e3 : evS T22 (.ret (.meth "Web" "tail" 16 (.slot 0) (.cons (.tup (.cons (.slot 2) (.cons (.bin .sub (.int 1) (.slot 3)) .nil))) .nil))) [some o, some (.tup [.int i, .int d]), some (.int i), some (.int d)] = .ex (xT i) := by
    simp [evSs, evS, evE.eq_1, evE.eq_2, evE.eq_3, evE.eq_4, evE.eq_5, evE.eq_6, evE.eq_7, evE.eq_8, evE.eq_9, evE.eq_10, evE.eq_11, evE.eq_12, evE.eq_13, evE.eq_14, evE.eq_15, evE.eq_16, evE.eq_17, evE.eq_18, evE.eq_19, evE.eq_20, evE.eq_21, evE.eq_22, evE.eq_23, evE.eq_24, evE.eq_28, evE.eq_30, evE.eq_31, evE.eq_32, evE.eq_33, evE.eq_34, evE.eq_35, evE.eq_36, evE.eq_37, evE.eq_38, evE.eq_39, evE.eq_40, evE.eq_41, evEs, evP, evO, evTo, evT, evAnd, evOr, evTA, evTO, evIt, evB, wp_bind, wp_nx, wp_if, wp_ok, wp_st, ok_bind, ok_nx, ok_rt, EV.R.of_some, rof_if, nxQ_nx, nxQ_rt, wp_noEx, g_0, g_s, s_0, s_s, s_t2, bb, zz, tru_bl, noEx_j, isi_list, isi_int, isi_bool, q_ll, q_llb, lenOk_of, b_add, b_sub, b_mul, b_div, b_mod, b_pow, mulOk_r, mulOk_l, divOk_of, c_lt, c_le, c_gt, c_ge, c_eq, c_ne, c_in, c_ni, dIn_dic, x_lst, x_scr, x_dic, l_lst, l_scr, l_abs, l_int, l_list, l_tup, l_sorted, l_sortedk, i_int, q_lst, q_lstp, q_b, q_bp, q_tup, q_tupp, a_app, a_put, t_0, t_s, rng_of, li_zz, li_bb, li_clean, li_z, pr_zz, pr_bb, pr_clean, pr_z, ll_zz, ll_bb, ll_cleanO, ll_cleanZ, ll_z, clean, isZ, isZs, cleans, zzs, bbs, Fl.bb, dIn_li, dEq_li, dEq_pr, dEq_ll, dEq_int, taint, taints, li_taint, pr_taint, ll_taint, Fl.tt, li_len, pr_len, ll_len, EV.keyOf, List.map_cons, List.map_nil, List.length_cons, List.length_nil, List.set_cons_zero, List.set_cons_succ, Option.map_some, h.bb, h.n1, t22_16, tail_badC h (1 - d) hi h1 h2, ex_bind]
  have e4 : evSs T22 dr22.body [some o, some (.tup [.int i, .int d]), none, none] = .ex (xT i) := by
    unfold dr22
    rw [evSs, e1, ok_nx, evSs, e3]
    rfl
  show EV.R.bind (evSs T22 dr22.body [some o, some (.tup [.int i, .int d]), none, none]) _ = _
  rw [e4]; rfl
theorem head_badC {i : Int} (d : Int) (hi : i < 0 ∨ (T.length : Int) ≤ i) (h1 : -(10 ^ 30) ≤ i) (h2 : i ≤ 10 ^ 30) : callD F22 [o, .tup [.int i, .int d]] = .ex (xT i) := by
  have hc : cleans [o, .tup [.int i, .int d]] = true := by simp [cleans, clean, h.cl]
  rw [callD_z rfl hc]
  simp only [zzs, zz, h.zz]
  exact head_bad h d hi h1 h2
/-- the tail of a step that leaves -/
theorem tail_st {p : Int} {x : Int × Int × Int} (hx : x ∈ stq p 0 T) : callD F16 [o, .tup [.int x.1, .int x.2.1]] = .ok (.tup [.int p, .int x.2.2]) := by
  obtain ⟨t, e, a, b, c⟩ := stq_mem T 0 hx
  have e2 : x.1 = ((x.1 - 0).toNat : Int) := by omega
  rcases c with ⟨c1, c2, c3⟩ | ⟨c1, c2, c3⟩
  · rw [e2, c1, tail_call h 0 e, c3]
    simp [tl, c2]
  · rw [e2, c1, tail_call h 1 e, c3]
    simp [tl, c2]
def us (p : Int) (T : List Tie) : List Int := sortI (ddI ((stq p 0 T).map fun x => x.2.2) [])
theorem used_ok (w : WebOk S T) {p : Int} (h0 : 0 ≤ p) (h1 : p < S.length) : F17.sem [o, .int p] = .ok (.lst .o (li (us p T))) := by
  refine run_eq ?_
  show Wp (evSs T17 dr17.body [some o, some (.int p), none]) _
  unfold dr17
  refine step_ret (d := .lst .o (li (us p T))) ?_ rfl
  refine sset_eq (stq p 0 T) (fun x => .tup [.int x.1, .int x.2.1]) (fun x => x.2.2) ?_ rfl (fun x hx => ?_) (fun x hx => ?_)
  · rw [← pr_st]
    simp [evSs, evS, evE.eq_1, evE.eq_2, evE.eq_3, evE.eq_4, evE.eq_5, evE.eq_6, evE.eq_7, evE.eq_8, evE.eq_9, evE.eq_10, evE.eq_11, evE.eq_12, evE.eq_13, evE.eq_14, evE.eq_15, evE.eq_16, evE.eq_17, evE.eq_18, evE.eq_19, evE.eq_20, evE.eq_21, evE.eq_22, evE.eq_23, evE.eq_24, evE.eq_28, evE.eq_30, evE.eq_31, evE.eq_32, evE.eq_33, evE.eq_34, evE.eq_35, evE.eq_36, evE.eq_37, evE.eq_38, evE.eq_39, evE.eq_40, evE.eq_41, evEs, evP, evO, evTo, evT, evAnd, evOr, evTA, evTO, evIt, evB, wp_bind, wp_nx, wp_if, wp_ok, wp_st, ok_bind, ok_nx, ok_rt, EV.R.of_some, rof_if, nxQ_nx, nxQ_rt, wp_noEx, g_0, g_s, s_0, s_s, s_t2, bb, zz, tru_bl, noEx_j, isi_list, isi_int, isi_bool, q_ll, q_llb, lenOk_of, b_add, b_sub, b_mul, b_div, b_mod, b_pow, mulOk_r, mulOk_l, divOk_of, c_lt, c_le, c_gt, c_ge, c_eq, c_ne, c_in, c_ni, dIn_dic, x_lst, x_scr, x_dic, l_lst, l_scr, l_abs, l_int, l_list, l_tup, l_sorted, l_sortedk, i_int, q_lst, q_lstp, q_b, q_bp, q_tup, q_tupp, a_app, a_put, t_0, t_s, rng_of, li_zz, li_bb, li_clean, li_z, pr_zz, pr_bb, pr_clean, pr_z, ll_zz, ll_bb, ll_cleanO, ll_cleanZ, ll_z, clean, isZ, isZs, cleans, zzs, bbs, Fl.bb, dIn_li, dEq_li, dEq_pr, dEq_ll, dEq_int, taint, taints, li_taint, pr_taint, ll_taint, Fl.tt, li_len, pr_len, ll_len, EV.keyOf, List.map_cons, List.map_nil, List.length_cons, List.length_nil, List.set_cons_zero, List.set_cons_succ, Option.map_some, h.bb, h.n3, t17_14, from_call h h0 h1, seqOf]
  · simp [wipeE, evSs, evS, evE.eq_1, evE.eq_2, evE.eq_3, evE.eq_4, evE.eq_5, evE.eq_6, evE.eq_7, evE.eq_8, evE.eq_9, evE.eq_10, evE.eq_11, evE.eq_12, evE.eq_13, evE.eq_14, evE.eq_15, evE.eq_16, evE.eq_17, evE.eq_18, evE.eq_19, evE.eq_20, evE.eq_21, evE.eq_22, evE.eq_23, evE.eq_24, evE.eq_28, evE.eq_30, evE.eq_31, evE.eq_32, evE.eq_33, evE.eq_34, evE.eq_35, evE.eq_36, evE.eq_37, evE.eq_38, evE.eq_39, evE.eq_40, evE.eq_41, evEs, evP, evO, evTo, evT, evAnd, evOr, evTA, evTO, evIt, evB, wp_bind, wp_nx, wp_if, wp_ok, wp_st, ok_bind, ok_nx, ok_rt, EV.R.of_some, rof_if, nxQ_nx, nxQ_rt, wp_noEx, g_0, g_s, s_0, s_s, s_t2, bb, zz, tru_bl, noEx_j, isi_list, isi_int, isi_bool, q_ll, q_llb, lenOk_of, b_add, b_sub, b_mul, b_div, b_mod, b_pow, mulOk_r, mulOk_l, divOk_of, c_lt, c_le, c_gt, c_ge, c_eq, c_ne, c_in, c_ni, dIn_dic, x_lst, x_scr, x_dic, l_lst, l_scr, l_abs, l_int, l_list, l_tup, l_sorted, l_sortedk, i_int, q_lst, q_lstp, q_b, q_bp, q_tup, q_tupp, a_app, a_put, t_0, t_s, rng_of, li_zz, li_bb, li_clean, li_z, pr_zz, pr_bb, pr_clean, pr_z, ll_zz, ll_bb, ll_cleanO, ll_cleanZ, ll_z, clean, isZ, isZs, cleans, zzs, bbs, Fl.bb, dIn_li, dEq_li, dEq_pr, dEq_ll, dEq_int, taint, taints, li_taint, pr_taint, ll_taint, Fl.tt, li_len, pr_len, ll_len, EV.keyOf, List.map_cons, List.map_nil, List.length_cons, List.length_nil, List.set_cons_zero, List.set_cons_succ, Option.map_some, h.bb, h.n1, t17_16, tail_st h hx, x_tup, x_p1]
  · obtain ⟨t, e, a, b, c⟩ := stq_mem T 0 hx
    obtain ⟨q1, q2, q3, q4, q5, q6, q7, q8⟩ := w.t t (List.mem_of_getElem? e)
    have m1 := w.s _ (sd_mem q1 q2)
    have m2 := w.s _ (sd_mem q5 q6)
    rcases c with ⟨c1, c2, c3⟩ | ⟨c1, c2, c3⟩ <;> rw [c3] <;> omega
def fol (p s : Int) (T : List Tie) : List (Int × Int) := ((stq p 0 T).filter fun x => decide (x.2.2 ≠ s)).map lo2
theorem fol_ok {i : Nat} {t : Tie} (d : Int) (ht : T[i]? = some t) (hT : T.length ≤ 300) (h0 : 0 ≤ (tl t (1 - d)).1) (h1 : (tl t (1 - d)).1 < S.length) : F23.sem [o, .tup [.int i, .int d]] = .ok (.lst .o (pr (fol (tl t (1 - d)).1 (tl t (1 - d)).2 T))) := by
  refine run_eq ?_
  show Wp (evSs T23 dr23.body [some o, some (.tup [.int i, .int d]), none, none, none]) _
  unfold dr23
  refine step (by simp [evSs, evS, evE.eq_1, evE.eq_2, evE.eq_3, evE.eq_4, evE.eq_5, evE.eq_6, evE.eq_7, evE.eq_8, evE.eq_9, evE.eq_10, evE.eq_11, evE.eq_12, evE.eq_13, evE.eq_14, evE.eq_15, evE.eq_16, evE.eq_17, evE.eq_18, evE.eq_19, evE.eq_20, evE.eq_21, evE.eq_22, evE.eq_23, evE.eq_24, evE.eq_28, evE.eq_30, evE.eq_31, evE.eq_32, evE.eq_33, evE.eq_34, evE.eq_35, evE.eq_36, evE.eq_37, evE.eq_38, evE.eq_39, evE.eq_40, evE.eq_41, evEs, evP, evO, evTo, evT, evAnd, evOr, evTA, evTO, evIt, evB, wp_bind, wp_nx, wp_if, wp_ok, wp_st, ok_bind, ok_nx, ok_rt, EV.R.of_some, rof_if, nxQ_nx, nxQ_rt, wp_noEx, g_0, g_s, s_0, s_s, s_t2, bb, zz, tru_bl, noEx_j, isi_list, isi_int, isi_bool, q_ll, q_llb, lenOk_of, b_add, b_sub, b_mul, b_div, b_mod, b_pow, mulOk_r, mulOk_l, divOk_of, c_lt, c_le, c_gt, c_ge, c_eq, c_ne, c_in, c_ni, dIn_dic, x_lst, x_scr, x_dic, l_lst, l_scr, l_abs, l_int, l_list, l_tup, l_sorted, l_sortedk, i_int, q_lst, q_lstp, q_b, q_bp, q_tup, q_tupp, a_app, a_put, t_0, t_s, rng_of, li_zz, li_bb, li_clean, li_z, pr_zz, pr_bb, pr_clean, pr_z, ll_zz, ll_bb, ll_cleanO, ll_cleanZ, ll_z, clean, isZ, isZs, cleans, zzs, bbs, Fl.bb, dIn_li, dEq_li, dEq_pr, dEq_ll, dEq_int, taint, taints, li_taint, pr_taint, ll_taint, Fl.tt, li_len, pr_len, ll_len, EV.keyOf, List.map_cons, List.map_nil, List.length_cons, List.length_nil, List.set_cons_zero, List.set_cons_succ, Option.map_some, h.bb, h.n2, t23_22, head_call h d ht] <;> rfl) ?_
  revert h0 h1
  generalize (tl t (1 - d)).1 = p
  generalize (tl t (1 - d)).2 = s
  intro h0 h1
  refine step_ret (d := .lst .o (pr (fol p s T))) ?_ rfl
  have e : pr (fol p s T) = (stq p 0 T).filterMap fun x => if x.2.2 ≠ s then some (D.tup [.int x.1, .int x.2.1]) else none := by
    unfold pr fol
    rw [List.map_map, ← List.filterMap_eq_map, List.filterMap_filter]
    congr 1
    funext x
    by_cases hx : x.2.2 = s <;> simp [hx, lo2]
  rw [e]
  refine comp_fil (stq p 0 T) (fun x => .tup [.int x.1, .int x.2.1]) _ ?_ rfl (fun x hx => ?_) (fun x hx d' hd => ?_) ?_
  · rw [← pr_st]
    simp [evSs, evS, evE.eq_1, evE.eq_2, evE.eq_3, evE.eq_4, evE.eq_5, evE.eq_6, evE.eq_7, evE.eq_8, evE.eq_9, evE.eq_10, evE.eq_11, evE.eq_12, evE.eq_13, evE.eq_14, evE.eq_15, evE.eq_16, evE.eq_17, evE.eq_18, evE.eq_19, evE.eq_20, evE.eq_21, evE.eq_22, evE.eq_23, evE.eq_24, evE.eq_28, evE.eq_30, evE.eq_31, evE.eq_32, evE.eq_33, evE.eq_34, evE.eq_35, evE.eq_36, evE.eq_37, evE.eq_38, evE.eq_39, evE.eq_40, evE.eq_41, evEs, evP, evO, evTo, evT, evAnd, evOr, evTA, evTO, evIt, evB, wp_bind, wp_nx, wp_if, wp_ok, wp_st, ok_bind, ok_nx, ok_rt, EV.R.of_some, rof_if, nxQ_nx, nxQ_rt, wp_noEx, g_0, g_s, s_0, s_s, s_t2, bb, zz, tru_bl, noEx_j, isi_list, isi_int, isi_bool, q_ll, q_llb, lenOk_of, b_add, b_sub, b_mul, b_div, b_mod, b_pow, mulOk_r, mulOk_l, divOk_of, c_lt, c_le, c_gt, c_ge, c_eq, c_ne, c_in, c_ni, dIn_dic, x_lst, x_scr, x_dic, l_lst, l_scr, l_abs, l_int, l_list, l_tup, l_sorted, l_sortedk, i_int, q_lst, q_lstp, q_b, q_bp, q_tup, q_tupp, a_app, a_put, t_0, t_s, rng_of, li_zz, li_bb, li_clean, li_z, pr_zz, pr_bb, pr_clean, pr_z, ll_zz, ll_bb, ll_cleanO, ll_cleanZ, ll_z, clean, isZ, isZs, cleans, zzs, bbs, Fl.bb, dIn_li, dEq_li, dEq_pr, dEq_ll, dEq_int, taint, taints, li_taint, pr_taint, ll_taint, Fl.tt, li_len, pr_len, ll_len, EV.keyOf, List.map_cons, List.map_nil, List.length_cons, List.length_nil, List.set_cons_zero, List.set_cons_succ, Option.map_some, h.bb, h.n3, t23_14, from_call h h0 h1, seqOf]
  · by_cases hs : x.2.2 = s
    · simp [wipeE, evSs, evS, evE.eq_1, evE.eq_2, evE.eq_3, evE.eq_4, evE.eq_5, evE.eq_6, evE.eq_7, evE.eq_8, evE.eq_9, evE.eq_10, evE.eq_11, evE.eq_12, evE.eq_13, evE.eq_14, evE.eq_15, evE.eq_16, evE.eq_17, evE.eq_18, evE.eq_19, evE.eq_20, evE.eq_21, evE.eq_22, evE.eq_23, evE.eq_24, evE.eq_28, evE.eq_30, evE.eq_31, evE.eq_32, evE.eq_33, evE.eq_34, evE.eq_35, evE.eq_36, evE.eq_37, evE.eq_38, evE.eq_39, evE.eq_40, evE.eq_41, evEs, evP, evO, evTo, evT, evAnd, evOr, evTA, evTO, evIt, evB, wp_bind, wp_nx, wp_if, wp_ok, wp_st, ok_bind, ok_nx, ok_rt, EV.R.of_some, rof_if, nxQ_nx, nxQ_rt, wp_noEx, g_0, g_s, s_0, s_s, s_t2, bb, zz, tru_bl, noEx_j, isi_list, isi_int, isi_bool, q_ll, q_llb, lenOk_of, b_add, b_sub, b_mul, b_div, b_mod, b_pow, mulOk_r, mulOk_l, divOk_of, c_lt, c_le, c_gt, c_ge, c_eq, c_ne, c_in, c_ni, dIn_dic, x_lst, x_scr, x_dic, l_lst, l_scr, l_abs, l_int, l_list, l_tup, l_sorted, l_sortedk, i_int, q_lst, q_lstp, q_b, q_bp, q_tup, q_tupp, a_app, a_put, t_0, t_s, rng_of, li_zz, li_bb, li_clean, li_z, pr_zz, pr_bb, pr_clean, pr_z, ll_zz, ll_bb, ll_cleanO, ll_cleanZ, ll_z, clean, isZ, isZs, cleans, zzs, bbs, Fl.bb, dIn_li, dEq_li, dEq_pr, dEq_ll, dEq_int, taint, taints, li_taint, pr_taint, ll_taint, Fl.tt, li_len, pr_len, ll_len, EV.keyOf, List.map_cons, List.map_nil, List.length_cons, List.length_nil, List.set_cons_zero, List.set_cons_succ, Option.map_some, h.bb, h.n1, t23_16, tail_st h hx, x_tup, x_p1, hs]
    · simp [wipeE, evSs, evS, evE.eq_1, evE.eq_2, evE.eq_3, evE.eq_4, evE.eq_5, evE.eq_6, evE.eq_7, evE.eq_8, evE.eq_9, evE.eq_10, evE.eq_11, evE.eq_12, evE.eq_13, evE.eq_14, evE.eq_15, evE.eq_16, evE.eq_17, evE.eq_18, evE.eq_19, evE.eq_20, evE.eq_21, evE.eq_22, evE.eq_23, evE.eq_24, evE.eq_28, evE.eq_30, evE.eq_31, evE.eq_32, evE.eq_33, evE.eq_34, evE.eq_35, evE.eq_36, evE.eq_37, evE.eq_38, evE.eq_39, evE.eq_40, evE.eq_41, evEs, evP, evO, evTo, evT, evAnd, evOr, evTA, evTO, evIt, evB, wp_bind, wp_nx, wp_if, wp_ok, wp_st, ok_bind, ok_nx, ok_rt, EV.R.of_some, rof_if, nxQ_nx, nxQ_rt, wp_noEx, g_0, g_s, s_0, s_s, s_t2, bb, zz, tru_bl, noEx_j, isi_list, isi_int, isi_bool, q_ll, q_llb, lenOk_of, b_add, b_sub, b_mul, b_div, b_mod, b_pow, mulOk_r, mulOk_l, divOk_of, c_lt, c_le, c_gt, c_ge, c_eq, c_ne, c_in, c_ni, dIn_dic, x_lst, x_scr, x_dic, l_lst, l_scr, l_abs, l_int, l_list, l_tup, l_sorted, l_sortedk, i_int, q_lst, q_lstp, q_b, q_bp, q_tup, q_tupp, a_app, a_put, t_0, t_s, rng_of, li_zz, li_bb, li_clean, li_z, pr_zz, pr_bb, pr_clean, pr_z, ll_zz, ll_bb, ll_cleanO, ll_cleanZ, ll_z, clean, isZ, isZs, cleans, zzs, bbs, Fl.bb, dIn_li, dEq_li, dEq_pr, dEq_ll, dEq_int, taint, taints, li_taint, pr_taint, ll_taint, Fl.tt, li_len, pr_len, ll_len, EV.keyOf, List.map_cons, List.map_nil, List.length_cons, List.length_nil, List.set_cons_zero, List.set_cons_succ, Option.map_some, h.bb, h.n1, t23_16, tail_st h hx, x_tup, x_p1, hs]
  · split at hd
    · cases hd; rfl
    · cases hd
  · have := st_len (p := p) (T := T) (i := 0)
    show _ ≤ 16777216
    omega
theorem fol_call {i : Nat} {t : Tie} (d : Int) (ht : T[i]? = some t) (hT : T.length ≤ 300) (h0 : 0 ≤ (tl t (1 - d)).1) (h1 : (tl t (1 - d)).1 < S.length) : callD F23 [o, .tup [.int i, .int d]] = .ok (.lst .o (pr (fol (tl t (1 - d)).1 (tl t (1 - d)).2 T))) := callD_v rfl (by simp only [zzs, zz, h.zz]; exact fol_ok h d ht hT h0 h1) (.inl (by simp [cleans, clean, h.cl]))
theorem fol_bad {i : Int} (d : Int) (hi : i < 0 ∨ (T.length : Int) ≤ i) (h1 : -(10 ^ 30) ≤ i) (h2 : i ≤ 10 ^ 30) : callD F23 [o, .tup [.int i, .int d]] = .ex (xT i) := by
  have hc : cleans [o, .tup [.int i, .int d]] = true := by simp [cleans, clean, h.cl]
  rw [callD_z rfl hc]
  simp only [zzs, zz, h.zz]
  have e3 : evS T23 (.asg (.tup [2, 3]) (.meth "Web" "head" 22 (.slot 0) (.cons (.slot 1) .nil))) [some o, some (.tup [.int i, .int d]), none, none, none] = .ex (xT i) := by
    simp [evSs, evS, evE.eq_1, evE.eq_2, evE.eq_3, evE.eq_4, evE.eq_5, evE.eq_6, evE.eq_7, evE.eq_8, evE.eq_9, evE.eq_10, evE.eq_11, evE.eq_12, evE.eq_13, evE.eq_14, evE.eq_15, evE.eq_16, evE.eq_17, evE.eq_18, evE.eq_19, evE.eq_20, evE.eq_21, evE.eq_22, evE.eq_23, evE.eq_24, evE.eq_28, evE.eq_30, evE.eq_31, evE.eq_32, evE.eq_33, evE.eq_34, evE.eq_35, evE.eq_36, evE.eq_37, evE.eq_38, evE.eq_39, evE.eq_40, evE.eq_41, evEs, evP, evO, evTo, evT, evAnd, evOr, evTA, evTO, evIt, evB, wp_bind, wp_nx, wp_if, wp_ok, wp_st, ok_bind, ok_nx, ok_rt, EV.R.of_some, rof_if, nxQ_nx, nxQ_rt, wp_noEx, g_0, g_s, s_0, s_s, s_t2, bb, zz, tru_bl, noEx_j, isi_list, isi_int, isi_bool, q_ll, q_llb, lenOk_of, b_add, b_sub, b_mul, b_div, b_mod, b_pow, mulOk_r, mulOk_l, divOk_of, c_lt, c_le, c_gt, c_ge, c_eq, c_ne, c_in, c_ni, dIn_dic, x_lst, x_scr, x_dic, l_lst, l_scr, l_abs, l_int, l_list, l_tup, l_sorted, l_sortedk, i_int, q_lst, q_lstp, q_b, q_bp, q_tup, q_tupp, a_app, a_put, t_0, t_s, rng_of, li_zz, li_bb, li_clean, li_z, pr_zz, pr_bb, pr_clean, pr_z, ll_zz, ll_bb, ll_cleanO, ll_cleanZ, ll_z, clean, isZ, isZs, cleans, zzs, bbs, Fl.bb, dIn_li, dEq_li, dEq_pr, dEq_ll, dEq_int, taint, taints, li_taint, pr_taint, ll_taint, Fl.tt, li_len, pr_len, ll_len, EV.keyOf, List.map_cons, List.map_nil, List.length_cons, List.length_nil, List.set_cons_zero, List.set_cons_succ, Option.map_some, h.bb, h.n2, t23_22, head_badC h d hi h1 h2, ex_bind]
  have e4 : evSs T23 dr23.body [some o, some (.tup [.int i, .int d]), none, none, none] = .ex (xT i) := by
    unfold dr23
    rw [evSs, e3]
    rfl
  show EV.R.bind (evSs T23 dr23.body [some o, some (.tup [.int i, .int d]), none, none, none]) _ = _
  rw [e4]; rfl
theorem turns_ok {i j : Nat} {t u : Tie} (d c : Int) (ht : T[i]? = some t) (hu : T[j]? = some u) : F26.sem [o, .tup [.int i, .int d], .tup [.int j, .int c]] = .ok (.bl (!decide ((tl t (1 - d)).2 = (tl u c).2))) := by
  refine run_eq ?_
  show Wp (evSs T26 dr26.body [some o, some (.tup [.int i, .int d]), some (.tup [.int j, .int c])]) _
  unfold dr26
  exact step_ret (d := .bl (!decide ((tl t (1 - d)).2 = (tl u c).2))) (by simp [evSs, evS, evE.eq_1, evE.eq_2, evE.eq_3, evE.eq_4, evE.eq_5, evE.eq_6, evE.eq_7, evE.eq_8, evE.eq_9, evE.eq_10, evE.eq_11, evE.eq_12, evE.eq_13, evE.eq_14, evE.eq_15, evE.eq_16, evE.eq_17, evE.eq_18, evE.eq_19, evE.eq_20, evE.eq_21, evE.eq_22, evE.eq_23, evE.eq_24, evE.eq_28, evE.eq_30, evE.eq_31, evE.eq_32, evE.eq_33, evE.eq_34, evE.eq_35, evE.eq_36, evE.eq_37, evE.eq_38, evE.eq_39, evE.eq_40, evE.eq_41, evEs, evP, evO, evTo, evT, evAnd, evOr, evTA, evTO, evIt, evB, wp_bind, wp_nx, wp_if, wp_ok, wp_st, ok_bind, ok_nx, ok_rt, EV.R.of_some, rof_if, nxQ_nx, nxQ_rt, wp_noEx, g_0, g_s, s_0, s_s, s_t2, bb, zz, tru_bl, noEx_j, isi_list, isi_int, isi_bool, q_ll, q_llb, lenOk_of, b_add, b_sub, b_mul, b_div, b_mod, b_pow, mulOk_r, mulOk_l, divOk_of, c_lt, c_le, c_gt, c_ge, c_eq, c_ne, c_in, c_ni, dIn_dic, x_lst, x_scr, x_dic, l_lst, l_scr, l_abs, l_int, l_list, l_tup, l_sorted, l_sortedk, i_int, q_lst, q_lstp, q_b, q_bp, q_tup, q_tupp, a_app, a_put, t_0, t_s, rng_of, li_zz, li_bb, li_clean, li_z, pr_zz, pr_bb, pr_clean, pr_z, ll_zz, ll_bb, ll_cleanO, ll_cleanZ, ll_z, clean, isZ, isZs, cleans, zzs, bbs, Fl.bb, dIn_li, dEq_li, dEq_pr, dEq_ll, dEq_int, taint, taints, li_taint, pr_taint, ll_taint, Fl.tt, li_len, pr_len, ll_len, EV.keyOf, List.map_cons, List.map_nil, List.length_cons, List.length_nil, List.set_cons_zero, List.set_cons_succ, Option.map_some, h.bb, h.n1, h.n2, t26_22, t26_16, head_call h d ht, tail_call h c hu, x_tup, x_p1]) rfl
theorem turns_call {i j : Nat} {t u : Tie} (d c : Int) (ht : T[i]? = some t) (hu : T[j]? = some u) : callD F26 [o, .tup [.int i, .int d], .tup [.int j, .int c]] = .ok (.bl (!decide ((tl t (1 - d)).2 = (tl u c).2))) :=
  callD_v rfl (by simp only [zzs, zz, h.zz]; exact turns_ok h d c ht hu) (.inr bl_back)
end
end K08
namespace K08
open PySem L2 EV
theorem runI_wp {Φ : Tab} {c : Str} {n : Nat} {b : Ss} {ds : List D} {v : D} (h : Wp (evSs Φ b (some (.obj .o c [] []) :: (ds.map some ++ List.replicate (n - (ds.length + 1)) none))) fun o => ∃ env, o = .nx env ∧ EV.get env 0 = .ok v) : runI Φ c n b ds = .ok v := by
  obtain ⟨o, e, env, rfl, h⟩ := h
  unfold runI
  rw [e]; exact h
theorem z1 : (("sides" : Str) = "ties") = False := by simp only [eq_iff_iff, iff_false]; decide
theorem z2 : (("sides" : Str) = "_leaving") = False := by simp only [eq_iff_iff, iff_false]; decide
theorem z3 : (("ties" : Str) = "_leaving") = False := by simp only [eq_iff_iff, iff_false]; decide
theorem k1 : putKs ([] : List Str) ("sides" : Str) = (["sides"] : List Str) := by decide +kernel
theorem k2 : putKs (["sides"] : List Str) ("ties" : Str) = (["sides", "ties"] : List Str) := by decide +kernel
theorem k3 : putKs (["sides", "ties"] : List Str) ("_leaving" : Str) = (["sides", "ties", "_leaving"] : List Str) := by decide +kernel
theorem k4 : putKs (["sides", "ties", "_leaving"] : List Str) ("_joints" : Str) = (["sides", "ties", "_leaving", "_joints"] : List Str) := by decide +kernel
theorem j1 {a : D} : putDs [] [] ("sides" : Str) a = [a] := by unfold putDs; rw [if_neg (by decide +kernel)]; rfl
theorem j2 {a b : D} : putDs (["sides"] : List Str) [a] ("ties" : Str) b = [a, b] := by unfold putDs; rw [if_neg (by decide +kernel)]; rfl
theorem j3 {a b c : D} : putDs (["sides", "ties"] : List Str) [a, b] ("_leaving" : Str) c = [a, b, c] := by unfold putDs; rw [if_neg (by decide +kernel)]; rfl
theorem j4 {a b c d : D} : putDs (["sides", "ties", "_leaving"] : List Str) [a, b, c] ("_joints" : Str) d = [a, b, c, d] := by unfold putDs; rw [if_neg (by decide +kernel)]; rfl
def w1 (f : Fl) (S : List Int) : D := .obj f "Web" ["sides"] [.tup (li S)]
def w2 (f : Fl) (S : List Int) (T : List Tie) : D := .obj f "Web" ["sides", "ties"] [.tup (li S), .tup (qd T)]
def w3 (f : Fl) (S : List Int) (T : List Tie) : D := .obj f "Web" ["sides", "ties", "_leaving"] [.tup (li S), .tup (qd T), .tup (lv S.length T)]
def w4 (f : Fl) (S : List Int) (T : List Tie) (J : List Int) : D := .obj f "Web" ["sides", "ties", "_leaving", "_joints"] [.tup (li S), .tup (qd T), .tup (lv S.length T), .tup (li J)]
theorem ob3 {S : List Int} {T : List Tie} : Ob (w3 .z S T) S T where
  sides := by simp [w3, dFld, lookK]
  ties := by simp [w3, dFld, lookK, z1]
  lea := by simp [w3, dFld, lookK, z2, z3]
  isO := by simp [w3, EV.isObj]
  n1 := by simp only [w3, EV.isObjN, decide_true, Bool.true_and]; decide +kernel
  n2 := by simp only [w3, EV.isObjN, decide_true, Bool.true_and]; decide +kernel
  n3 := by simp only [w3, EV.isObjN, decide_true, Bool.true_and]; decide +kernel
  bb := by simp [w3, bb, bbs, li_bb, qd_bb, lv_bb, Fl.bb]
  zz := by simp [w3, zz, zzs, li_zz, qd_zz, lv_zz]
  cl := by simp [w3, clean, cleans, li_clean, qd_clean, lv_clean]
theorem ob4 {S : List Int} {T : List Tie} {J : List Int} : Ob (w4 .z S T J) S T where
  sides := by simp [w4, dFld, lookK]
  ties := by simp [w4, dFld, lookK, z1]
  lea := by simp [w4, dFld, lookK, z2, z3]
  isO := by simp [w4, EV.isObj]
  n1 := by simp only [w4, EV.isObjN, decide_true, Bool.true_and]; decide +kernel
  n2 := by simp only [w4, EV.isObjN, decide_true, Bool.true_and]; decide +kernel
  n3 := by simp only [w4, EV.isObjN, decide_true, Bool.true_and]; decide +kernel
  bb := by simp [w4, bb, bbs, li_bb, qd_bb, lv_bb, Fl.bb]
  zz := by simp [w4, zz, zzs, li_zz, qd_zz, lv_zz]
  cl := by simp [w4, clean, cleans, li_clean, qd_clean, lv_clean]
theorem comp18 {T : List Tie} {o x : D} {v3 v4 v5 : Option D} (hl : T.length ≤ 1000000) : evE T18 (.comp (.seq (.slot 2)) (.name 5) [5] .none (.blt .tuple (.slot 5))) [some o, some x, some (.lst .z (qd T)), v3, v4, v5] = .ok (.lst .o (qd T)) := by
  refine comp_map T qdD qdD ?_ rfl (fun t _ => ?_) (fun t _ => rfl) (by show T.length ≤ 16777216; omega)
  · simp [evSs, evS, evE.eq_1, evE.eq_2, evE.eq_3, evE.eq_4, evE.eq_5, evE.eq_6, evE.eq_7, evE.eq_8, evE.eq_9, evE.eq_10, evE.eq_11, evE.eq_12, evE.eq_13, evE.eq_14, evE.eq_15, evE.eq_16, evE.eq_17, evE.eq_18, evE.eq_19, evE.eq_20, evE.eq_21, evE.eq_22, evE.eq_23, evE.eq_24, evE.eq_28, evE.eq_30, evE.eq_31, evE.eq_32, evE.eq_33, evE.eq_34, evE.eq_35, evE.eq_36, evE.eq_37, evE.eq_38, evE.eq_39, evE.eq_40, evE.eq_41, evEs, evP, evO, evTo, evT, evAnd, evOr, evTA, evTO, evIt, evB, wp_bind, wp_nx, wp_if, wp_ok, wp_st, ok_bind, ok_nx, ok_rt, EV.R.of_some, rof_if, nxQ_nx, nxQ_rt, wp_noEx, g_0, g_s, s_0, s_s, s_t2, bb, zz, tru_bl, noEx_j, isi_list, isi_int, isi_bool, q_ll, q_llb, lenOk_of, b_add, b_sub, b_mul, b_div, b_mod, b_pow, mulOk_r, mulOk_l, divOk_of, c_lt, c_le, c_gt, c_ge, c_eq, c_ne, c_in, c_ni, dIn_dic, x_lst, x_scr, x_dic, l_lst, l_scr, l_abs, l_int, l_list, l_tup, l_sorted, l_sortedk, i_int, q_lst, q_lstp, q_b, q_bp, q_tup, q_tupp, a_app, a_put, t_0, t_s, rng_of, li_zz, li_bb, li_clean, li_z, pr_zz, pr_bb, pr_clean, pr_z, ll_zz, ll_bb, ll_cleanO, ll_cleanZ, ll_z, clean, isZ, isZs, cleans, zzs, bbs, Fl.bb, dIn_li, dEq_li, dEq_pr, dEq_ll, dEq_int, taint, taints, li_taint, pr_taint, ll_taint, Fl.tt, li_len, pr_len, ll_len, EV.keyOf, List.map_cons, List.map_nil, List.length_cons, List.length_nil, List.set_cons_zero, List.set_cons_succ, Option.map_some, qd_bb, qd_clean, qd_zz, seqOf]; rfl
  · simp [wipeE, qdD, evSs, evS, evE.eq_1, evE.eq_2, evE.eq_3, evE.eq_4, evE.eq_5, evE.eq_6, evE.eq_7, evE.eq_8, evE.eq_9, evE.eq_10, evE.eq_11, evE.eq_12, evE.eq_13, evE.eq_14, evE.eq_15, evE.eq_16, evE.eq_17, evE.eq_18, evE.eq_19, evE.eq_20, evE.eq_21, evE.eq_22, evE.eq_23, evE.eq_24, evE.eq_28, evE.eq_30, evE.eq_31, evE.eq_32, evE.eq_33, evE.eq_34, evE.eq_35, evE.eq_36, evE.eq_37, evE.eq_38, evE.eq_39, evE.eq_40, evE.eq_41, evEs, evP, evO, evTo, evT, evAnd, evOr, evTA, evTO, evIt, evB, wp_bind, wp_nx, wp_if, wp_ok, wp_st, ok_bind, ok_nx, ok_rt, EV.R.of_some, rof_if, nxQ_nx, nxQ_rt, wp_noEx, g_0, g_s, s_0, s_s, s_t2, bb, zz, tru_bl, noEx_j, isi_list, isi_int, isi_bool, q_ll, q_llb, lenOk_of, b_add, b_sub, b_mul, b_div, b_mod, b_pow, mulOk_r, mulOk_l, divOk_of, c_lt, c_le, c_gt, c_ge, c_eq, c_ne, c_in, c_ni, dIn_dic, x_lst, x_scr, x_dic, l_lst, l_scr, l_abs, l_int, l_list, l_tup, l_sorted, l_sortedk, i_int, q_lst, q_lstp, q_b, q_bp, q_tup, q_tupp, a_app, a_put, t_0, t_s, rng_of, li_zz, li_bb, li_clean, li_z, pr_zz, pr_bb, pr_clean, pr_z, ll_zz, ll_bb, ll_cleanO, ll_cleanZ, ll_z, clean, isZ, isZs, cleans, zzs, bbs, Fl.bb, dIn_li, dEq_li, dEq_pr, dEq_ll, dEq_int, taint, taints, li_taint, pr_taint, ll_taint, Fl.tt, li_len, pr_len, ll_len, EV.keyOf, List.map_cons, List.map_nil, List.length_cons, List.length_nil, List.set_cons_zero, List.set_cons_succ, Option.map_some, b_ttup]
def jn (n : Nat) (T : List Tie) : List Int := ((List.range n).filter fun p : Nat => decide (1 < (us (p : Int) T).length)).map fun p : Nat => (p : Int)
theorem used_self {S : List Int} {T : List Tie} (w : WebOk S T) {p : Int} (h0 : 0 ≤ p) (h1 : p < S.length) : ∃ f, callD F17 [w3 .b S T, .int p] = .ok (.lst f (li (us p T))) := by
  have hc : cleans [w3 .b S T, .int p] = false := by simp [w3, cleans, clean]
  rw [callD_b rfl hc]
  simp only [zzs, zz, show zz (w3 .b S T) = w3 .z S T by simp [w3, zz, zzs, li_zz, qd_zz, lv_zz]]
  rw [used_ok ob3 w h0 h1, ok_bind]
  unfold backD
  split
  · exact ⟨_, by simp [taintL, show ∀ L : List Int, taintLs (li L) = li L from fun L => by induction L with
      | nil => rfl
      | cons x L ih => exact congrArg (D.int x :: ·) ih]; rfl⟩
  · exact ⟨_, by simp [taint, li_taint]; rfl⟩
theorem isN3 {f : Fl} {S : List Int} {T : List Tie} : EV.isObjN "Web" "used_sides" (w3 f S T) = true := by
  simp only [w3, EV.isObjN, decide_true, Bool.true_and]; decide +kernel
theorem b3 {S : List Int} {T : List Tie} : bb (w3 .o S T) = w3 .b S T := by simp [w3, bb, bbs, li_bb, qd_bb, lv_bb, Fl.bb]
theorem f3s {f : Fl} {S : List Int} {T : List Tie} : dFld "Web" "sides" (w3 f S T) = some (.tup (li S)) := by simp [w3, dFld, lookK]
theorem b2 {S : List Int} {T : List Tie} : bb (w2 .o S T) = w2 .b S T := by simp [w2, bb, bbs, li_bb, qd_bb, Fl.bb]
theorem f2s {f : Fl} {S : List Int} {T : List Tie} : dFld "Web" "sides" (w2 f S T) = some (.tup (li S)) := by simp [w2, dFld, lookK]
theorem f2t {f : Fl} {S : List Int} {T : List Tie} : dFld "Web" "ties" (w2 f S T) = some (.tup (qd T)) := by simp [w2, dFld, lookK, z1]
theorem comp18j {S : List Int} {T : List Tie} (w : WebOk S T) {d1 d2 : D} {v3 v4 v5 : Option D} (hl : S.length ≤ 1000000) : evE T18 (.comp (.r1 (.blt .len (.fld "Web" "sides" (.slot 0)))) (.name 3) [3] (.some (.b (.cmp .gt (.blt .len (.meth "Web" "used_sides" 17 (.slot 0) (.cons (.slot 3) .nil))) (.int 1)))) (.slot 3)) [some (w3 .o S T), some d1, some d2, v3, v4, v5] = .ok (.lst .o (li (jn S.length T))) := by
  have hr : rngOk (S.length : Int) = true := rng_of (by omega) (by omega)
  have e : li (jn S.length T) = (List.range S.length).filterMap fun p : Nat => if 1 < (us (p : Int) T).length then some (D.int p) else none := by
    unfold li jn
    rw [List.map_map, ← List.filterMap_eq_map, List.filterMap_filter]
    congr 1
    funext x
    by_cases hx : 1 < (us (x : Int) T).length <;> simp [hx]
  rw [e]
  refine comp_fil (List.range S.length) (fun p => .int (0 + p)) _ ?_ rfl (fun p hp => ?_) (fun x hx d' hd => ?_) (by rw [List.length_range]; show S.length ≤ 16777216; omega)
  · simp [evSs, evS, evE.eq_1, evE.eq_2, evE.eq_3, evE.eq_4, evE.eq_5, evE.eq_6, evE.eq_7, evE.eq_8, evE.eq_9, evE.eq_10, evE.eq_11, evE.eq_12, evE.eq_13, evE.eq_14, evE.eq_15, evE.eq_16, evE.eq_17, evE.eq_18, evE.eq_19, evE.eq_20, evE.eq_21, evE.eq_22, evE.eq_23, evE.eq_24, evE.eq_28, evE.eq_30, evE.eq_31, evE.eq_32, evE.eq_33, evE.eq_34, evE.eq_35, evE.eq_36, evE.eq_37, evE.eq_38, evE.eq_39, evE.eq_40, evE.eq_41, evEs, evP, evO, evTo, evT, evAnd, evOr, evTA, evTO, evIt, evB, wp_bind, wp_nx, wp_if, wp_ok, wp_st, ok_bind, ok_nx, ok_rt, EV.R.of_some, rof_if, nxQ_nx, nxQ_rt, wp_noEx, g_0, g_s, s_0, s_s, s_t2, bb, zz, tru_bl, noEx_j, isi_list, isi_int, isi_bool, q_ll, q_llb, lenOk_of, b_add, b_sub, b_mul, b_div, b_mod, b_pow, mulOk_r, mulOk_l, divOk_of, c_lt, c_le, c_gt, c_ge, c_eq, c_ne, c_in, c_ni, dIn_dic, x_lst, x_scr, x_dic, l_lst, l_scr, l_abs, l_int, l_list, l_tup, l_sorted, l_sortedk, i_int, q_lst, q_lstp, q_b, q_bp, q_tup, q_tupp, a_app, a_put, t_0, t_s, rng_of, li_zz, li_bb, li_clean, li_z, pr_zz, pr_bb, pr_clean, pr_z, ll_zz, ll_bb, ll_cleanO, ll_cleanZ, ll_z, clean, isZ, isZs, cleans, zzs, bbs, Fl.bb, dIn_li, dEq_li, dEq_pr, dEq_ll, dEq_int, taint, taints, li_taint, pr_taint, ll_taint, Fl.tt, li_len, pr_len, ll_len, EV.keyOf, List.map_cons, List.map_nil, List.length_cons, List.length_nil, List.set_cons_zero, List.set_cons_succ, Option.map_some, b3, f3s, l_ttup, li_len, hr, rangeD]
  · have hp := List.mem_range.mp hp
    obtain ⟨f, hu⟩ := used_self w (p := (p : Int)) (by omega) (by omega)
    by_cases hx : 1 < (us (p : Int) T).length
    · have hx2 : (1 : Int) < ((us (p : Int) T).length : Int) := by omega
      simp [wipeE, evSs, evS, evE.eq_1, evE.eq_2, evE.eq_3, evE.eq_4, evE.eq_5, evE.eq_6, evE.eq_7, evE.eq_8, evE.eq_9, evE.eq_10, evE.eq_11, evE.eq_12, evE.eq_13, evE.eq_14, evE.eq_15, evE.eq_16, evE.eq_17, evE.eq_18, evE.eq_19, evE.eq_20, evE.eq_21, evE.eq_22, evE.eq_23, evE.eq_24, evE.eq_28, evE.eq_30, evE.eq_31, evE.eq_32, evE.eq_33, evE.eq_34, evE.eq_35, evE.eq_36, evE.eq_37, evE.eq_38, evE.eq_39, evE.eq_40, evE.eq_41, evEs, evP, evO, evTo, evT, evAnd, evOr, evTA, evTO, evIt, evB, wp_bind, wp_nx, wp_if, wp_ok, wp_st, ok_bind, ok_nx, ok_rt, EV.R.of_some, rof_if, nxQ_nx, nxQ_rt, wp_noEx, g_0, g_s, s_0, s_s, s_t2, bb, zz, tru_bl, noEx_j, isi_list, isi_int, isi_bool, q_ll, q_llb, lenOk_of, b_add, b_sub, b_mul, b_div, b_mod, b_pow, mulOk_r, mulOk_l, divOk_of, c_lt, c_le, c_gt, c_ge, c_eq, c_ne, c_in, c_ni, dIn_dic, x_lst, x_scr, x_dic, l_lst, l_scr, l_abs, l_int, l_list, l_tup, l_sorted, l_sortedk, i_int, q_lst, q_lstp, q_b, q_bp, q_tup, q_tupp, a_app, a_put, t_0, t_s, rng_of, li_zz, li_bb, li_clean, li_z, pr_zz, pr_bb, pr_clean, pr_z, ll_zz, ll_bb, ll_cleanO, ll_cleanZ, ll_z, clean, isZ, isZs, cleans, zzs, bbs, Fl.bb, dIn_li, dEq_li, dEq_pr, dEq_ll, dEq_int, taint, taints, li_taint, pr_taint, ll_taint, Fl.tt, li_len, pr_len, ll_len, EV.keyOf, List.map_cons, List.map_nil, List.length_cons, List.length_nil, List.set_cons_zero, List.set_cons_succ, Option.map_some, b3, isN3, t18_17, hu, hx, hx2]
    · have hx2 : ¬ (1 : Int) < ((us (p : Int) T).length : Int) := by omega
      simp [wipeE, evSs, evS, evE.eq_1, evE.eq_2, evE.eq_3, evE.eq_4, evE.eq_5, evE.eq_6, evE.eq_7, evE.eq_8, evE.eq_9, evE.eq_10, evE.eq_11, evE.eq_12, evE.eq_13, evE.eq_14, evE.eq_15, evE.eq_16, evE.eq_17, evE.eq_18, evE.eq_19, evE.eq_20, evE.eq_21, evE.eq_22, evE.eq_23, evE.eq_24, evE.eq_28, evE.eq_30, evE.eq_31, evE.eq_32, evE.eq_33, evE.eq_34, evE.eq_35, evE.eq_36, evE.eq_37, evE.eq_38, evE.eq_39, evE.eq_40, evE.eq_41, evEs, evP, evO, evTo, evT, evAnd, evOr, evTA, evTO, evIt, evB, wp_bind, wp_nx, wp_if, wp_ok, wp_st, ok_bind, ok_nx, ok_rt, EV.R.of_some, rof_if, nxQ_nx, nxQ_rt, wp_noEx, g_0, g_s, s_0, s_s, s_t2, bb, zz, tru_bl, noEx_j, isi_list, isi_int, isi_bool, q_ll, q_llb, lenOk_of, b_add, b_sub, b_mul, b_div, b_mod, b_pow, mulOk_r, mulOk_l, divOk_of, c_lt, c_le, c_gt, c_ge, c_eq, c_ne, c_in, c_ni, dIn_dic, x_lst, x_scr, x_dic, l_lst, l_scr, l_abs, l_int, l_list, l_tup, l_sorted, l_sortedk, i_int, q_lst, q_lstp, q_b, q_bp, q_tup, q_tupp, a_app, a_put, t_0, t_s, rng_of, li_zz, li_bb, li_clean, li_z, pr_zz, pr_bb, pr_clean, pr_z, ll_zz, ll_bb, ll_cleanO, ll_cleanZ, ll_z, clean, isZ, isZs, cleans, zzs, bbs, Fl.bb, dIn_li, dEq_li, dEq_pr, dEq_ll, dEq_int, taint, taints, li_taint, pr_taint, ll_taint, Fl.tt, li_len, pr_len, ll_len, EV.keyOf, List.map_cons, List.map_nil, List.length_cons, List.length_nil, List.set_cons_zero, List.set_cons_succ, Option.map_some, b3, isN3, t18_17, hu, hx, hx2]
  · split at hd
    · cases hd; rfl
    · cases hd
theorem init_ok {S : List Int} {T : List Tie} (w : WebOk S T) (hl : S.length ≤ 200) (hT : T.length ≤ 300) : F18.sem [.lst .z (li S), .lst .z (qd T)] = .ok (w4 .o S T (jn S.length T)) := by
  refine runI_wp ?_
  show Wp (evSs T18 dr18.body [some (.obj .o "Web" [] []), some (.lst .z (li S)), some (.lst .z (qd T)), none, none, none]) _
  unfold dr18
  refine step (env' := [some (w1 .o S), some (.lst .z (li S)), some (.lst .z (qd T)), none, none, none]) (by simp [evSs, evS, evE.eq_1, evE.eq_2, evE.eq_3, evE.eq_4, evE.eq_5, evE.eq_6, evE.eq_7, evE.eq_8, evE.eq_9, evE.eq_10, evE.eq_11, evE.eq_12, evE.eq_13, evE.eq_14, evE.eq_15, evE.eq_16, evE.eq_17, evE.eq_18, evE.eq_19, evE.eq_20, evE.eq_21, evE.eq_22, evE.eq_23, evE.eq_24, evE.eq_28, evE.eq_30, evE.eq_31, evE.eq_32, evE.eq_33, evE.eq_34, evE.eq_35, evE.eq_36, evE.eq_37, evE.eq_38, evE.eq_39, evE.eq_40, evE.eq_41, evEs, evP, evO, evTo, evT, evAnd, evOr, evTA, evTO, evIt, evB, wp_bind, wp_nx, wp_if, wp_ok, wp_st, ok_bind, ok_nx, ok_rt, EV.R.of_some, rof_if, nxQ_nx, nxQ_rt, wp_noEx, g_0, g_s, s_0, s_s, s_t2, bb, zz, tru_bl, noEx_j, isi_list, isi_int, isi_bool, q_ll, q_llb, lenOk_of, b_add, b_sub, b_mul, b_div, b_mod, b_pow, mulOk_r, mulOk_l, divOk_of, c_lt, c_le, c_gt, c_ge, c_eq, c_ne, c_in, c_ni, dIn_dic, x_lst, x_scr, x_dic, l_lst, l_scr, l_abs, l_int, l_list, l_tup, l_sorted, l_sortedk, i_int, q_lst, q_lstp, q_b, q_bp, q_tup, q_tupp, a_app, a_put, t_0, t_s, rng_of, li_zz, li_bb, li_clean, li_z, pr_zz, pr_bb, pr_clean, pr_z, ll_zz, ll_bb, ll_cleanO, ll_cleanZ, ll_z, clean, isZ, isZs, cleans, zzs, bbs, Fl.bb, dIn_li, dEq_li, dEq_pr, dEq_ll, dEq_int, taint, taints, li_taint, pr_taint, ll_taint, Fl.tt, li_len, pr_len, ll_len, EV.keyOf, List.map_cons, List.map_nil, List.length_cons, List.length_nil, List.set_cons_zero, List.set_cons_succ, Option.map_some, k1, j1]; rfl) ?_
  refine step (env' := [some (w2 .o S T), some (.lst .z (li S)), some (.lst .z (qd T)), none, none, none]) (by simp [evSs, evS, evE.eq_1, evE.eq_2, evE.eq_3, evE.eq_4, evE.eq_5, evE.eq_6, evE.eq_7, evE.eq_8, evE.eq_9, evE.eq_10, evE.eq_11, evE.eq_12, evE.eq_13, evE.eq_14, evE.eq_15, evE.eq_16, evE.eq_17, evE.eq_18, evE.eq_19, evE.eq_20, evE.eq_21, evE.eq_22, evE.eq_23, evE.eq_24, evE.eq_28, evE.eq_30, evE.eq_31, evE.eq_32, evE.eq_33, evE.eq_34, evE.eq_35, evE.eq_36, evE.eq_37, evE.eq_38, evE.eq_39, evE.eq_40, evE.eq_41, evEs, evP, evO, evTo, evT, evAnd, evOr, evTA, evTO, evIt, evB, wp_bind, wp_nx, wp_if, wp_ok, wp_st, ok_bind, ok_nx, ok_rt, EV.R.of_some, rof_if, nxQ_nx, nxQ_rt, wp_noEx, g_0, g_s, s_0, s_s, s_t2, bb, zz, tru_bl, noEx_j, isi_list, isi_int, isi_bool, q_ll, q_llb, lenOk_of, b_add, b_sub, b_mul, b_div, b_mod, b_pow, mulOk_r, mulOk_l, divOk_of, c_lt, c_le, c_gt, c_ge, c_eq, c_ne, c_in, c_ni, dIn_dic, x_lst, x_scr, x_dic, l_lst, l_scr, l_abs, l_int, l_list, l_tup, l_sorted, l_sortedk, i_int, q_lst, q_lstp, q_b, q_bp, q_tup, q_tupp, a_app, a_put, t_0, t_s, rng_of, li_zz, li_bb, li_clean, li_z, pr_zz, pr_bb, pr_clean, pr_z, ll_zz, ll_bb, ll_cleanO, ll_cleanZ, ll_z, clean, isZ, isZs, cleans, zzs, bbs, Fl.bb, dIn_li, dEq_li, dEq_pr, dEq_ll, dEq_int, taint, taints, li_taint, pr_taint, ll_taint, Fl.tt, li_len, pr_len, ll_len, EV.keyOf, List.map_cons, List.map_nil, List.length_cons, List.length_nil, List.set_cons_zero, List.set_cons_succ, Option.map_some, comp18 (show T.length ≤ 1000000 by omega), qd_clean, qd_zz, w1, k2, j2]; rfl) ?_
  refine step (env' := [some (w2 .o S T), some (.lst .z (li S)), some (.lst .z (qd T)), none, none, none]) (by simp [evSs, evS, evE.eq_1, evE.eq_2, evE.eq_3, evE.eq_4, evE.eq_5, evE.eq_6, evE.eq_7, evE.eq_8, evE.eq_9, evE.eq_10, evE.eq_11, evE.eq_12, evE.eq_13, evE.eq_14, evE.eq_15, evE.eq_16, evE.eq_17, evE.eq_18, evE.eq_19, evE.eq_20, evE.eq_21, evE.eq_22, evE.eq_23, evE.eq_24, evE.eq_28, evE.eq_30, evE.eq_31, evE.eq_32, evE.eq_33, evE.eq_34, evE.eq_35, evE.eq_36, evE.eq_37, evE.eq_38, evE.eq_39, evE.eq_40, evE.eq_41, evEs, evP, evO, evTo, evT, evAnd, evOr, evTA, evTO, evIt, evB, wp_bind, wp_nx, wp_if, wp_ok, wp_st, ok_bind, ok_nx, ok_rt, EV.R.of_some, rof_if, nxQ_nx, nxQ_rt, wp_noEx, g_0, g_s, s_0, s_s, s_t2, bb, zz, tru_bl, noEx_j, isi_list, isi_int, isi_bool, q_ll, q_llb, lenOk_of, b_add, b_sub, b_mul, b_div, b_mod, b_pow, mulOk_r, mulOk_l, divOk_of, c_lt, c_le, c_gt, c_ge, c_eq, c_ne, c_in, c_ni, dIn_dic, x_lst, x_scr, x_dic, l_lst, l_scr, l_abs, l_int, l_list, l_tup, l_sorted, l_sortedk, i_int, q_lst, q_lstp, q_b, q_bp, q_tup, q_tupp, a_app, a_put, t_0, t_s, rng_of, li_zz, li_bb, li_clean, li_z, pr_zz, pr_bb, pr_clean, pr_z, ll_zz, ll_bb, ll_cleanO, ll_cleanZ, ll_z, clean, isZ, isZs, cleans, zzs, bbs, Fl.bb, dIn_li, dEq_li, dEq_pr, dEq_ll, dEq_int, taint, taints, li_taint, pr_taint, ll_taint, Fl.tt, li_len, pr_len, ll_len, EV.keyOf, List.map_cons, List.map_nil, List.length_cons, List.length_nil, List.set_cons_zero, List.set_cons_succ, Option.map_some, b2, f2s, f2t, t18_5, limits_call hl hT]) ?_
  refine ofor (ds := enumD 0 (li S)) (by simp [evSs, evS, evE.eq_1, evE.eq_2, evE.eq_3, evE.eq_4, evE.eq_5, evE.eq_6, evE.eq_7, evE.eq_8, evE.eq_9, evE.eq_10, evE.eq_11, evE.eq_12, evE.eq_13, evE.eq_14, evE.eq_15, evE.eq_16, evE.eq_17, evE.eq_18, evE.eq_19, evE.eq_20, evE.eq_21, evE.eq_22, evE.eq_23, evE.eq_24, evE.eq_28, evE.eq_30, evE.eq_31, evE.eq_32, evE.eq_33, evE.eq_34, evE.eq_35, evE.eq_36, evE.eq_37, evE.eq_38, evE.eq_39, evE.eq_40, evE.eq_41, evEs, evP, evO, evTo, evT, evAnd, evOr, evTA, evTO, evIt, evB, wp_bind, wp_nx, wp_if, wp_ok, wp_st, ok_bind, ok_nx, ok_rt, EV.R.of_some, rof_if, nxQ_nx, nxQ_rt, wp_noEx, g_0, g_s, s_0, s_s, s_t2, bb, zz, tru_bl, noEx_j, isi_list, isi_int, isi_bool, q_ll, q_llb, lenOk_of, b_add, b_sub, b_mul, b_div, b_mod, b_pow, mulOk_r, mulOk_l, divOk_of, c_lt, c_le, c_gt, c_ge, c_eq, c_ne, c_in, c_ni, dIn_dic, x_lst, x_scr, x_dic, l_lst, l_scr, l_abs, l_int, l_list, l_tup, l_sorted, l_sortedk, i_int, q_lst, q_lstp, q_b, q_bp, q_tup, q_tupp, a_app, a_put, t_0, t_s, rng_of, li_zz, li_bb, li_clean, li_z, pr_zz, pr_bb, pr_clean, pr_z, ll_zz, ll_bb, ll_cleanO, ll_cleanZ, ll_z, clean, isZ, isZs, cleans, zzs, bbs, Fl.bb, dIn_li, dEq_li, dEq_pr, dEq_ll, dEq_int, taint, taints, li_taint, pr_taint, ll_taint, Fl.tt, li_len, pr_len, ll_len, EV.keyOf, List.map_cons, List.map_nil, List.length_cons, List.length_nil, List.set_cons_zero, List.set_cons_succ, Option.map_some, b2, f2s, q_tup]) ?_
  refine wp_for (fun _ e => ∃ v3 v4 : Option D, e = [some (w2 .o S T), some (.lst .z (li S)), some (.lst .z (qd T)), v3, v4, none]) ⟨_, _, rfl⟩ ?_ ?_
  · rintro i d e hi ⟨v3, v4, rfl⟩
    obtain ⟨x, hx, rfl⟩ := enum_get hi
    rw [li_get] at hx
    cases hs : S[i]? with
    | none => rw [hs] at hx; cases hx
    | some c =>
      rw [hs] at hx
      cases hx
      obtain ⟨c1, c2⟩ := w.s c (List.mem_of_getElem? hs)
      simp [evSs, evS, evE.eq_1, evE.eq_2, evE.eq_3, evE.eq_4, evE.eq_5, evE.eq_6, evE.eq_7, evE.eq_8, evE.eq_9, evE.eq_10, evE.eq_11, evE.eq_12, evE.eq_13, evE.eq_14, evE.eq_15, evE.eq_16, evE.eq_17, evE.eq_18, evE.eq_19, evE.eq_20, evE.eq_21, evE.eq_22, evE.eq_23, evE.eq_24, evE.eq_28, evE.eq_30, evE.eq_31, evE.eq_32, evE.eq_33, evE.eq_34, evE.eq_35, evE.eq_36, evE.eq_37, evE.eq_38, evE.eq_39, evE.eq_40, evE.eq_41, evEs, evP, evO, evTo, evT, evAnd, evOr, evTA, evTO, evIt, evB, wp_bind, wp_nx, wp_if, wp_ok, wp_st, ok_bind, ok_nx, ok_rt, EV.R.of_some, rof_if, nxQ_nx, nxQ_rt, wp_noEx, g_0, g_s, s_0, s_s, s_t2, bb, zz, tru_bl, noEx_j, isi_list, isi_int, isi_bool, q_ll, q_llb, lenOk_of, b_add, b_sub, b_mul, b_div, b_mod, b_pow, mulOk_r, mulOk_l, divOk_of, c_lt, c_le, c_gt, c_ge, c_eq, c_ne, c_in, c_ni, dIn_dic, x_lst, x_scr, x_dic, l_lst, l_scr, l_abs, l_int, l_list, l_tup, l_sorted, l_sortedk, i_int, q_lst, q_lstp, q_b, q_bp, q_tup, q_tupp, a_app, a_put, t_0, t_s, rng_of, li_zz, li_bb, li_clean, li_z, pr_zz, pr_bb, pr_clean, pr_z, ll_zz, ll_bb, ll_cleanO, ll_cleanZ, ll_z, clean, isZ, isZs, cleans, zzs, bbs, Fl.bb, dIn_li, dEq_li, dEq_pr, dEq_ll, dEq_int, taint, taints, li_taint, pr_taint, ll_taint, Fl.tt, li_len, pr_len, ll_len, EV.keyOf, List.map_cons, List.map_nil, List.length_cons, List.length_nil, List.set_cons_zero, List.set_cons_succ, Option.map_some, t18_7, sides_call c1 c2]
      exact post_nx ⟨_, _, rfl⟩
  rintro e ⟨v3, v4, rfl⟩
  rw [nxQ_nx]
  refine ofor (ds := qd T) (by simp [evSs, evS, evE.eq_1, evE.eq_2, evE.eq_3, evE.eq_4, evE.eq_5, evE.eq_6, evE.eq_7, evE.eq_8, evE.eq_9, evE.eq_10, evE.eq_11, evE.eq_12, evE.eq_13, evE.eq_14, evE.eq_15, evE.eq_16, evE.eq_17, evE.eq_18, evE.eq_19, evE.eq_20, evE.eq_21, evE.eq_22, evE.eq_23, evE.eq_24, evE.eq_28, evE.eq_30, evE.eq_31, evE.eq_32, evE.eq_33, evE.eq_34, evE.eq_35, evE.eq_36, evE.eq_37, evE.eq_38, evE.eq_39, evE.eq_40, evE.eq_41, evEs, evP, evO, evTo, evT, evAnd, evOr, evTA, evTO, evIt, evB, wp_bind, wp_nx, wp_if, wp_ok, wp_st, ok_bind, ok_nx, ok_rt, EV.R.of_some, rof_if, nxQ_nx, nxQ_rt, wp_noEx, g_0, g_s, s_0, s_s, s_t2, bb, zz, tru_bl, noEx_j, isi_list, isi_int, isi_bool, q_ll, q_llb, lenOk_of, b_add, b_sub, b_mul, b_div, b_mod, b_pow, mulOk_r, mulOk_l, divOk_of, c_lt, c_le, c_gt, c_ge, c_eq, c_ne, c_in, c_ni, dIn_dic, x_lst, x_scr, x_dic, l_lst, l_scr, l_abs, l_int, l_list, l_tup, l_sorted, l_sortedk, i_int, q_lst, q_lstp, q_b, q_bp, q_tup, q_tupp, a_app, a_put, t_0, t_s, rng_of, li_zz, li_bb, li_clean, li_z, pr_zz, pr_bb, pr_clean, pr_z, ll_zz, ll_bb, ll_cleanO, ll_cleanZ, ll_z, clean, isZ, isZs, cleans, zzs, bbs, Fl.bb, dIn_li, dEq_li, dEq_pr, dEq_ll, dEq_int, taint, taints, li_taint, pr_taint, ll_taint, Fl.tt, li_len, pr_len, ll_len, EV.keyOf, List.map_cons, List.map_nil, List.length_cons, List.length_nil, List.set_cons_zero, List.set_cons_succ, Option.map_some, b2, f2t, seq_qd]) ?_
  refine wp_for (fun _ e => ∃ v5 : Option D, e = [some (w2 .o S T), some (.lst .z (li S)), some (.lst .z (qd T)), v3, v4, v5]) ⟨_, rfl⟩ ?_ ?_
  · rintro i d e hi ⟨v5, rfl⟩
    obtain ⟨t, ht, rfl⟩ := qd_some hi
    have ok := tie_call (w.t t (List.mem_of_getElem? ht))
    have e1 : bb (qdD t) = qdD t := rfl
    simp [evSs, evS, evE.eq_1, evE.eq_2, evE.eq_3, evE.eq_4, evE.eq_5, evE.eq_6, evE.eq_7, evE.eq_8, evE.eq_9, evE.eq_10, evE.eq_11, evE.eq_12, evE.eq_13, evE.eq_14, evE.eq_15, evE.eq_16, evE.eq_17, evE.eq_18, evE.eq_19, evE.eq_20, evE.eq_21, evE.eq_22, evE.eq_23, evE.eq_24, evE.eq_28, evE.eq_30, evE.eq_31, evE.eq_32, evE.eq_33, evE.eq_34, evE.eq_35, evE.eq_36, evE.eq_37, evE.eq_38, evE.eq_39, evE.eq_40, evE.eq_41, evEs, evP, evO, evTo, evT, evAnd, evOr, evTA, evTO, evIt, evB, wp_bind, wp_nx, wp_if, wp_ok, wp_st, ok_bind, ok_nx, ok_rt, EV.R.of_some, rof_if, nxQ_nx, nxQ_rt, wp_noEx, g_0, g_s, s_0, s_s, s_t2, bb, zz, tru_bl, noEx_j, isi_list, isi_int, isi_bool, q_ll, q_llb, lenOk_of, b_add, b_sub, b_mul, b_div, b_mod, b_pow, mulOk_r, mulOk_l, divOk_of, c_lt, c_le, c_gt, c_ge, c_eq, c_ne, c_in, c_ni, dIn_dic, x_lst, x_scr, x_dic, l_lst, l_scr, l_abs, l_int, l_list, l_tup, l_sorted, l_sortedk, i_int, q_lst, q_lstp, q_b, q_bp, q_tup, q_tupp, a_app, a_put, t_0, t_s, rng_of, li_zz, li_bb, li_clean, li_z, pr_zz, pr_bb, pr_clean, pr_z, ll_zz, ll_bb, ll_cleanO, ll_cleanZ, ll_z, clean, isZ, isZs, cleans, zzs, bbs, Fl.bb, dIn_li, dEq_li, dEq_pr, dEq_ll, dEq_int, taint, taints, li_taint, pr_taint, ll_taint, Fl.tt, li_len, pr_len, ll_len, EV.keyOf, List.map_cons, List.map_nil, List.length_cons, List.length_nil, List.set_cons_zero, List.set_cons_succ, Option.map_some, b2, f2s, t18_11, e1, ok]
    exact post_nx ⟨_, rfl⟩
  rintro e ⟨v5, rfl⟩
  rw [nxQ_nx]
  refine step (env' := [some (w3 .o S T), some (.lst .z (li S)), some (.lst .z (qd T)), v3, v4, v5]) (by simp [evSs, evS, evE.eq_1, evE.eq_2, evE.eq_3, evE.eq_4, evE.eq_5, evE.eq_6, evE.eq_7, evE.eq_8, evE.eq_9, evE.eq_10, evE.eq_11, evE.eq_12, evE.eq_13, evE.eq_14, evE.eq_15, evE.eq_16, evE.eq_17, evE.eq_18, evE.eq_19, evE.eq_20, evE.eq_21, evE.eq_22, evE.eq_23, evE.eq_24, evE.eq_28, evE.eq_30, evE.eq_31, evE.eq_32, evE.eq_33, evE.eq_34, evE.eq_35, evE.eq_36, evE.eq_37, evE.eq_38, evE.eq_39, evE.eq_40, evE.eq_41, evEs, evP, evO, evTo, evT, evAnd, evOr, evTA, evTO, evIt, evB, wp_bind, wp_nx, wp_if, wp_ok, wp_st, ok_bind, ok_nx, ok_rt, EV.R.of_some, rof_if, nxQ_nx, nxQ_rt, wp_noEx, g_0, g_s, s_0, s_s, s_t2, bb, zz, tru_bl, noEx_j, isi_list, isi_int, isi_bool, q_ll, q_llb, lenOk_of, b_add, b_sub, b_mul, b_div, b_mod, b_pow, mulOk_r, mulOk_l, divOk_of, c_lt, c_le, c_gt, c_ge, c_eq, c_ne, c_in, c_ni, dIn_dic, x_lst, x_scr, x_dic, l_lst, l_scr, l_abs, l_int, l_list, l_tup, l_sorted, l_sortedk, i_int, q_lst, q_lstp, q_b, q_bp, q_tup, q_tupp, a_app, a_put, t_0, t_s, rng_of, li_zz, li_bb, li_clean, li_z, pr_zz, pr_bb, pr_clean, pr_z, ll_zz, ll_bb, ll_cleanO, ll_cleanZ, ll_z, clean, isZ, isZs, cleans, zzs, bbs, Fl.bb, dIn_li, dEq_li, dEq_pr, dEq_ll, dEq_int, taint, taints, li_taint, pr_taint, ll_taint, Fl.tt, li_len, pr_len, ll_len, EV.keyOf, List.map_cons, List.map_nil, List.length_cons, List.length_nil, List.set_cons_zero, List.set_cons_succ, Option.map_some, b2, f2s, f2t, t18_12, places_call w hl hT, lv_clean]; simp [w2, w3, k3, j3]) ?_
  refine step (env' := [some (w4 .o S T (jn S.length T)), some (.lst .z (li S)), some (.lst .z (qd T)), v3, v4, v5]) (by simp [evSs, evS, evE.eq_1, evE.eq_2, evE.eq_3, evE.eq_4, evE.eq_5, evE.eq_6, evE.eq_7, evE.eq_8, evE.eq_9, evE.eq_10, evE.eq_11, evE.eq_12, evE.eq_13, evE.eq_14, evE.eq_15, evE.eq_16, evE.eq_17, evE.eq_18, evE.eq_19, evE.eq_20, evE.eq_21, evE.eq_22, evE.eq_23, evE.eq_24, evE.eq_28, evE.eq_30, evE.eq_31, evE.eq_32, evE.eq_33, evE.eq_34, evE.eq_35, evE.eq_36, evE.eq_37, evE.eq_38, evE.eq_39, evE.eq_40, evE.eq_41, evEs, evP, evO, evTo, evT, evAnd, evOr, evTA, evTO, evIt, evB, wp_bind, wp_nx, wp_if, wp_ok, wp_st, ok_bind, ok_nx, ok_rt, EV.R.of_some, rof_if, nxQ_nx, nxQ_rt, wp_noEx, g_0, g_s, s_0, s_s, s_t2, bb, zz, tru_bl, noEx_j, isi_list, isi_int, isi_bool, q_ll, q_llb, lenOk_of, b_add, b_sub, b_mul, b_div, b_mod, b_pow, mulOk_r, mulOk_l, divOk_of, c_lt, c_le, c_gt, c_ge, c_eq, c_ne, c_in, c_ni, dIn_dic, x_lst, x_scr, x_dic, l_lst, l_scr, l_abs, l_int, l_list, l_tup, l_sorted, l_sortedk, i_int, q_lst, q_lstp, q_b, q_bp, q_tup, q_tupp, a_app, a_put, t_0, t_s, rng_of, li_zz, li_bb, li_clean, li_z, pr_zz, pr_bb, pr_clean, pr_z, ll_zz, ll_bb, ll_cleanO, ll_cleanZ, ll_z, clean, isZ, isZs, cleans, zzs, bbs, Fl.bb, dIn_li, dEq_li, dEq_pr, dEq_ll, dEq_int, taint, taints, li_taint, pr_taint, ll_taint, Fl.tt, li_len, pr_len, ll_len, EV.keyOf, List.map_cons, List.map_nil, List.length_cons, List.length_nil, List.set_cons_zero, List.set_cons_succ, Option.map_some, comp18j w (show S.length ≤ 1000000 by omega)]; simp [w3, w4, k4, j4]) ?_
  exact ⟨_, rfl, _, rfl, rfl⟩
theorem make_web {S : List Int} {T : List Tie} (w : WebOk S T) (hl : S.length ≤ 200) (hT : T.length ≤ 300) : makeD F18 [.lst .o (li S), .lst .o (qd T)] = .ok (w4 .o S T (jn S.length T)) := by
  refine makeD_v rfl ?_ (.inl (by simp [cleans, clean, li_clean, qd_clean]))
  simp only [zzs, zz, li_zz, qd_zz]
  exact init_ok w hl hT
end K08
namespace K08
open PySem L2 EV
theorem dEq_bl {x y : Bool} : dEq (.bl x) (.bl y) = some (x == y) := by cases x <;> cases y <;> decide +kernel
theorem isi_tup {ds : List D} : dIsi "tuple" (.tup ds) = some (.bl true) := by
  show (kitB "tuple" "tuple").map _ = _
  rw [show kitB "tuple" "tuple" = some true by decide +kernel]; rfl
theorem isi_boolb {b : Bool} : dIsi "bool" (.bl b) = some (.bl true) := by
  show (kitB "bool" "bool").map _ = _
  rw [show kitB "bool" "bool" = some true by decide +kernel]; rfl
theorem sh_p2 (x y : Int) : SeqAt.shaped (.tuple [.int x, .int y]) = true := by simp [SeqAt.shaped, PyData.canLay0, PyData.canLayAll0, PyData.depth, PyData.depthAll]
theorem dEq_p2 {x y : Int} : dEq (.tup [.int x, .int y]) (.tup [.int x, .int y]) = some true := by
  have e : toP (.tup [.int x, .int y]) = some (.tuple [.int x, .int y]) := rfl
  simp only [dEq, e, sh_p2, Bool.and_self, if_true, self_eq (sh_p2 x y)]
theorem dIn_pr {x y : Int} {f : Fl} {L : List (Int × Int)} : dIn (.tup [.int x, .int y]) (.lst f (pr L)) = some (decide ((x, y) ∈ L)) := by
  show (match toP (.tup [.int x, .int y]), toPs (pr L) with
    | some p, some ps => if SeqAt.shaped p && SeqAt.shaped (.list ps) then some (ps.any fun z => PyData.eqv z p) else none
    | _, _ => none) = _
  rw [toPs_pr]
  show (if SeqAt.shaped (.tuple [.int x, .int y]) && SeqAt.shaped (.list (L.map fun t => .tuple [.int t.1, .int t.2])) then some ((L.map fun t => PyData.tuple [.int t.1, .int t.2]).any fun z => PyData.eqv z (.tuple [.int x, .int y])) else none) = _
  rw [sh_p2, sh_pr]
  simp only [Bool.and_self, if_true, Option.some.injEq]
  rw [Bool.eq_iff_iff, List.any_eq_true, decide_eq_true_eq]
  constructor
  · rintro ⟨z, hz, e⟩
    obtain ⟨t, ht, rfl⟩ := List.mem_map.mp hz
    simp [PyData.eqv, PyData.eqvAll] at e
    obtain ⟨e1, e2⟩ := e
    have : t = (x, y) := Prod.ext e1 e2
    exact this ▸ ht
  · intro h
    exact ⟨_, List.mem_map_of_mem h, by simp [PyData.eqv, PyData.eqvAll]⟩
theorem toPs_qd : ∀ L : List Tie, toPs (qd L) = some (L.map fun t => .tuple [.int t.1, .int t.2.1, .int t.2.2.1, .int t.2.2.2])
  | [] => rfl
  | t :: L => by
    show (match toP (qdD t), toPs (qd L) with
      | some p, some ps => some (p :: ps)
      | _, _ => none) = _
    rw [toPs_qd L]; rfl
theorem sh_qd (L : List Tie) : SeqAt.shaped (.list (L.map fun t => .tuple [.int t.1, .int t.2.1, .int t.2.2.1, .int t.2.2.2])) = true := shaped_l _ (fun x => by simp [PyData.canLay0, PyData.canLayAll0]) 4 (by decide) (fun x => by simp [PyData.depth, PyData.depthAll]) L
theorem dEq_qd {f g : Fl} {L : List Tie} : dEq (.lst f (qd L)) (.lst g (qd L)) = some true := by
  simp only [dEq, toP, toPs_qd, Option.map_some, sh_qd, Bool.and_self, if_true, self_eq (sh_qd L)]
/-! the law's own defs -/
theorem tail19 {T : List Tie} {i : Nat} {t : Tie} {d : Int} (ht : T[i]? = some t) (hd : d = 0 ∨ d = 1) : F19.sem [.lst .z (qd T), .tup [.int i, .int d]] = .ok (.tup [.int (tl t d).1, .int (tl t d).2]) := by
  have ha := at_qd ht
  have m0 : mulOk 2 0 = true := by decide
  have m1 : mulOk 2 1 = true := by decide
  refine wp_eq ?_
  rcases hd with rfl | rfl
  · simp [F19, runF, dr19, evSs, evS, evE, evEs, evP, evO, evTo, evT, evAnd, evOr, evTA, evTO, evIt, evB, wp_bind, wp_nx, wp_if, wp_ok, wp_st, ok_bind, ok_nx, ok_rt, EV.R.of_some, rof_if, nxQ_nx, nxQ_rt, wp_noEx, g_0, g_s, s_0, s_s, s_t2, bb, zz, tru_bl, noEx_j, isi_list, isi_int, isi_bool, q_ll, q_llb, lenOk_of, b_add, b_sub, b_mul, b_div, b_mod, b_pow, mulOk_r, mulOk_l, divOk_of, c_lt, c_le, c_gt, c_ge, c_eq, c_ne, c_in, c_ni, dIn_dic, x_lst, x_scr, x_dic, l_lst, l_scr, l_abs, l_int, l_list, l_tup, l_sorted, l_sortedk, i_int, q_lst, q_lstp, q_b, q_bp, q_tup, q_tupp, a_app, a_put, t_0, t_s, rng_of, li_zz, li_bb, li_clean, li_z, pr_zz, pr_bb, pr_clean, pr_z, ll_zz, ll_bb, ll_cleanO, ll_cleanZ, ll_z, clean, isZ, isZs, cleans, zzs, bbs, Fl.bb, dIn_li, dEq_li, dEq_pr, dEq_ll, dEq_int, taint, taints, li_taint, pr_taint, ll_taint, Fl.tt, li_len, pr_len, ll_len, EV.keyOf, List.map_cons, List.map_nil, List.length_cons, List.length_nil, List.set_cons_zero, List.set_cons_succ, Option.map_some, x_tup, x_p0, x_p1, qd_bb, ha, qdD, x_q0, x_q1, tl, m0]
  · simp [F19, runF, dr19, evSs, evS, evE, evEs, evP, evO, evTo, evT, evAnd, evOr, evTA, evTO, evIt, evB, wp_bind, wp_nx, wp_if, wp_ok, wp_st, ok_bind, ok_nx, ok_rt, EV.R.of_some, rof_if, nxQ_nx, nxQ_rt, wp_noEx, g_0, g_s, s_0, s_s, s_t2, bb, zz, tru_bl, noEx_j, isi_list, isi_int, isi_bool, q_ll, q_llb, lenOk_of, b_add, b_sub, b_mul, b_div, b_mod, b_pow, mulOk_r, mulOk_l, divOk_of, c_lt, c_le, c_gt, c_ge, c_eq, c_ne, c_in, c_ni, dIn_dic, x_lst, x_scr, x_dic, l_lst, l_scr, l_abs, l_int, l_list, l_tup, l_sorted, l_sortedk, i_int, q_lst, q_lstp, q_b, q_bp, q_tup, q_tupp, a_app, a_put, t_0, t_s, rng_of, li_zz, li_bb, li_clean, li_z, pr_zz, pr_bb, pr_clean, pr_z, ll_zz, ll_bb, ll_cleanO, ll_cleanZ, ll_z, clean, isZ, isZs, cleans, zzs, bbs, Fl.bb, dIn_li, dEq_li, dEq_pr, dEq_ll, dEq_int, taint, taints, li_taint, pr_taint, ll_taint, Fl.tt, li_len, pr_len, ll_len, EV.keyOf, List.map_cons, List.map_nil, List.length_cons, List.length_nil, List.set_cons_zero, List.set_cons_succ, Option.map_some, x_tup, x_p0, x_p1, qd_bb, ha, qdD, x_q2, x_q3, tl, m1]
theorem tail19_call {f : Fl} {T : List Tie} {i : Nat} {t : Tie} {d : Int} (hf : f ≠ .b) (ht : T[i]? = some t) (hd : d = 0 ∨ d = 1) : callD F19 [.lst f (qd T), .tup [.int i, .int d]] = .ok (.tup [.int (tl t d).1, .int (tl t d).2]) :=
  callD_v rfl (by simp only [zzs, zz, qd_zz]; exact tail19 ht hd) (.inl (by simp [cleans, clean, qd_clean, hf]))
theorem tail19_z {T : List Tie} {i : Nat} {t : Tie} {d : Int} (ht : T[i]? = some t) (hd : d = 0 ∨ d = 1) : callD F19 [.lst .z (qd T), .tup [.int i, .int d]] = .ok (.tup [.int (tl t d).1, .int (tl t d).2]) := tail19_call (by decide) ht hd
theorem head20 {T : List Tie} {i : Nat} {t : Tie} {d : Int} (ht : T[i]? = some t) (hd : d = 0 ∨ d = 1) : F20.sem [.lst .z (qd T), .tup [.int i, .int d]] = .ok (.tup [.int (tl t (1 - d)).1, .int (tl t (1 - d)).2]) := by
  have h := tail19_z ht (show 1 - d = 0 ∨ 1 - d = 1 by omega)
  refine wp_eq ?_
  simp [F20, runF, dr20, evSs, evS, evE, evEs, evP, evO, evTo, evT, evAnd, evOr, evTA, evTO, evIt, evB, wp_bind, wp_nx, wp_if, wp_ok, wp_st, ok_bind, ok_nx, ok_rt, EV.R.of_some, rof_if, nxQ_nx, nxQ_rt, wp_noEx, g_0, g_s, s_0, s_s, s_t2, bb, zz, tru_bl, noEx_j, isi_list, isi_int, isi_bool, q_ll, q_llb, lenOk_of, b_add, b_sub, b_mul, b_div, b_mod, b_pow, mulOk_r, mulOk_l, divOk_of, c_lt, c_le, c_gt, c_ge, c_eq, c_ne, c_in, c_ni, dIn_dic, x_lst, x_scr, x_dic, l_lst, l_scr, l_abs, l_int, l_list, l_tup, l_sorted, l_sortedk, i_int, q_lst, q_lstp, q_b, q_bp, q_tup, q_tupp, a_app, a_put, t_0, t_s, rng_of, li_zz, li_bb, li_clean, li_z, pr_zz, pr_bb, pr_clean, pr_z, ll_zz, ll_bb, ll_cleanO, ll_cleanZ, ll_z, clean, isZ, isZs, cleans, zzs, bbs, Fl.bb, dIn_li, dEq_li, dEq_pr, dEq_ll, dEq_int, taint, taints, li_taint, pr_taint, ll_taint, Fl.tt, li_len, pr_len, ll_len, EV.keyOf, List.map_cons, List.map_nil, List.length_cons, List.length_nil, List.set_cons_zero, List.set_cons_succ, Option.map_some, x_tup, x_p0, x_p1, t20_19, h, qd_bb]
theorem head20_z {T : List Tie} {i : Nat} {t : Tie} {d : Int} (ht : T[i]? = some t) (hd : d = 0 ∨ d = 1) : callD F20 [.lst .z (qd T), .tup [.int i, .int d]] = .ok (.tup [.int (tl t (1 - d)).1, .int (tl t (1 - d)).2]) :=
  callD_v rfl (by simp only [zzs, zz, qd_zz]; exact head20 ht hd) (.inl (by simp [cleans, clean, qd_clean]))
def part (p s : Int) (i : Nat) (t : Tie) (d : Int) : List (Int × Int) := if (tl t d).1 = p ∧ (tl t d).2 ≠ s then [((i : Int), d)] else []
theorem fol_app {p s : Int} {A : List Tie} {t : Tie} : fol p s (A ++ [t]) = fol p s A ++ part p s A.length t 0 ++ part p s A.length t 1 := by
  unfold fol part
  rw [stq_app, List.filter_append, List.map_append, List.append_assoc]
  congr 1
  unfold one tl
  by_cases e1 : t.1 = p <;> by_cases e2 : t.2.2.1 = p <;> by_cases e3 : t.2.1 = s <;> by_cases e4 : t.2.2.2 = s <;> simp [e1, e2, e3, e4, lo2]
theorem fol_len {p s : Int} {T : List Tie} : (fol p s T).length ≤ 2 * T.length := by
  unfold fol
  rw [List.length_map]
  exact Nat.le_trans (List.length_filter_le _ _) st_len
theorem stq_in {p : Int} {t : Tie} : ∀ (A : List Tie) (k : Int) (i : Nat), A[i]? = some t → (t.1 = p → (k + i, 0, t.2.1) ∈ stq p k A) ∧ (t.2.2.1 = p → (k + i, 1, t.2.2.2) ∈ stq p k A)
  | [], k, i, h => by simp at h
  | y :: A, k, 0, h => by
    simp at h
    subst h
    constructor
    · intro h; simp [stq, one, h]
    · intro h; simp [stq, one, h]
  | y :: A, k, i + 1, h => by
    obtain ⟨a, b⟩ := stq_in (p := p) A (k + 1) i (by simpa using h)
    have e : k + ((i + 1 : Nat) : Int) = k + 1 + (i : Int) := by push_cast; omega
    rw [e, stq]
    exact ⟨fun h => List.mem_append_right _ (a h), fun h => List.mem_append_right _ (b h)⟩
theorem fol_mem {p s : Int} {T : List Tie} {j : Nat} {u : Tie} {c : Int} (hu : T[j]? = some u) (hc : c = 0 ∨ c = 1) (hp : (tl u c).1 = p) : decide (((j : Int), c) ∈ fol p s T) = !decide (s = (tl u c).2) := by
  rw [Bool.eq_iff_iff]
  simp only [decide_eq_true_eq, Bool.not_eq_true', decide_eq_false_iff_not]
  unfold fol
  constructor
  · intro h
    obtain ⟨x, hx, e⟩ := List.mem_map.mp h
    rw [List.mem_filter, decide_eq_true_eq] at hx
    obtain ⟨hx, ne⟩ := hx
    obtain ⟨t, e1, a, b, cc⟩ := stq_mem T 0 hx
    have e2 : x.1 = (j : Int) := congrArg Prod.fst e
    have e3 : x.2.1 = c := congrArg Prod.snd e
    rw [e2, show ((j : Int) - 0).toNat = j by omega, hu] at e1
    cases e1
    intro h
    apply ne
    rw [h]
    rcases cc with ⟨c1, c2, c3⟩ | ⟨c1, c2, c3⟩
    · rw [e3] at c1
      rw [c3, c1]; rfl
    · rw [e3] at c1
      rw [c3, c1]; rfl
  · intro h
    obtain ⟨a, b⟩ := stq_in (p := p) T 0 j hu
    rcases hc with rfl | rfl
    · refine List.mem_map.mpr ⟨(0 + (j : Int), 0, u.2.1), List.mem_filter.mpr ⟨a hp, ?_⟩, by simp [lo2]⟩
      rw [decide_eq_true_eq]
      exact fun e => h e.symm
    · refine List.mem_map.mpr ⟨(0 + (j : Int), 1, u.2.2.2), List.mem_filter.mpr ⟨b hp, ?_⟩, by simp [lo2]⟩
      rw [decide_eq_true_eq]
      exact fun e => h e.symm
def I21 (T : List Tie) (q : D) (p s : Int) (i : Nat) (e : EV.Env) : Prop := ∃ v5 v6 v7 v8 : Option D, e = [some (.lst .z (qd T)), some q, some (.int p), some (.int s), some (.lst .o (pr (fol p s (T.take i)))), v5, v6, v7, v8]
theorem app_ok {T : List Tie} {q : D} {p s a b : Int} {X : List (Int × Int)} {i : Nat} {d : Int} (hl : X.length < 100000) : evS T21 (.app 4 .nil (.tup (.cons (.slot 5) (.cons (.slot 6) .nil)))) [some (.lst .z (qd T)), some q, some (.int p), some (.int s), some (.lst .o (pr X)), some (.int i), some (.int d), some (.int a), some (.int b)] = .ok (.nx [some (.lst .z (qd T)), some q, some (.int p), some (.int s), some (.lst .o (pr (X ++ [((i : Int), d)]))), some (.int i), some (.int d), some (.int a), some (.int b)]) := by
  have hs : X.length < sizeLine := by show _ < 16777216; omega
  simp [evSs, evS, evE.eq_1, evE.eq_2, evE.eq_3, evE.eq_4, evE.eq_5, evE.eq_6, evE.eq_7, evE.eq_8, evE.eq_9, evE.eq_10, evE.eq_11, evE.eq_12, evE.eq_13, evE.eq_14, evE.eq_15, evE.eq_16, evE.eq_17, evE.eq_18, evE.eq_19, evE.eq_20, evE.eq_21, evE.eq_22, evE.eq_23, evE.eq_24, evE.eq_28, evE.eq_30, evE.eq_31, evE.eq_32, evE.eq_33, evE.eq_34, evE.eq_35, evE.eq_36, evE.eq_37, evE.eq_38, evE.eq_39, evE.eq_40, evE.eq_41, evEs, evP, evO, evTo, evT, evAnd, evOr, evTA, evTO, evIt, evB, wp_bind, wp_nx, wp_if, wp_ok, wp_st, ok_bind, ok_nx, ok_rt, EV.R.of_some, rof_if, nxQ_nx, nxQ_rt, wp_noEx, g_0, g_s, s_0, s_s, s_t2, bb, zz, tru_bl, noEx_j, isi_list, isi_int, isi_bool, q_ll, q_llb, lenOk_of, b_add, b_sub, b_mul, b_div, b_mod, b_pow, mulOk_r, mulOk_l, divOk_of, c_lt, c_le, c_gt, c_ge, c_eq, c_ne, c_in, c_ni, dIn_dic, x_lst, x_scr, x_dic, l_lst, l_scr, l_abs, l_int, l_list, l_tup, l_sorted, l_sortedk, i_int, q_lst, q_lstp, q_b, q_bp, q_tup, q_tupp, a_app, a_put, t_0, t_s, rng_of, li_zz, li_bb, li_clean, li_z, pr_zz, pr_bb, pr_clean, pr_z, ll_zz, ll_bb, ll_cleanO, ll_cleanZ, ll_z, clean, isZ, isZs, cleans, zzs, bbs, Fl.bb, dIn_li, dEq_li, dEq_pr, dEq_ll, dEq_int, taint, taints, li_taint, pr_taint, ll_taint, Fl.tt, li_len, pr_len, ll_len, EV.keyOf, List.map_cons, List.map_nil, List.length_cons, List.length_nil, List.set_cons_zero, List.set_cons_succ, Option.map_some, hs, lenOk_of, pr_app]
theorem fol21 {T : List Tie} {i : Nat} {t : Tie} {d : Int} (ht : T[i]? = some t) (hd : d = 0 ∨ d = 1) (hT : T.length ≤ 300) : F21.sem [.lst .z (qd T), .tup [.int i, .int d]] = .ok (.lst .o (pr (fol (tl t (1 - d)).1 (tl t (1 - d)).2 T))) := by
  refine run_eq ?_
  show Wp (evSs T21 dr21.body [some (.lst .z (qd T)), some (.tup [.int i, .int d]), none, none, none, none, none, none, none]) _
  unfold dr21
  refine step (by simp [evSs, evS, evE.eq_1, evE.eq_2, evE.eq_3, evE.eq_4, evE.eq_5, evE.eq_6, evE.eq_7, evE.eq_8, evE.eq_9, evE.eq_10, evE.eq_11, evE.eq_12, evE.eq_13, evE.eq_14, evE.eq_15, evE.eq_16, evE.eq_17, evE.eq_18, evE.eq_19, evE.eq_20, evE.eq_21, evE.eq_22, evE.eq_23, evE.eq_24, evE.eq_28, evE.eq_30, evE.eq_31, evE.eq_32, evE.eq_33, evE.eq_34, evE.eq_35, evE.eq_36, evE.eq_37, evE.eq_38, evE.eq_39, evE.eq_40, evE.eq_41, evEs, evP, evO, evTo, evT, evAnd, evOr, evTA, evTO, evIt, evB, wp_bind, wp_nx, wp_if, wp_ok, wp_st, ok_bind, ok_nx, ok_rt, EV.R.of_some, rof_if, nxQ_nx, nxQ_rt, wp_noEx, g_0, g_s, s_0, s_s, s_t2, bb, zz, tru_bl, noEx_j, isi_list, isi_int, isi_bool, q_ll, q_llb, lenOk_of, b_add, b_sub, b_mul, b_div, b_mod, b_pow, mulOk_r, mulOk_l, divOk_of, c_lt, c_le, c_gt, c_ge, c_eq, c_ne, c_in, c_ni, dIn_dic, x_lst, x_scr, x_dic, l_lst, l_scr, l_abs, l_int, l_list, l_tup, l_sorted, l_sortedk, i_int, q_lst, q_lstp, q_b, q_bp, q_tup, q_tupp, a_app, a_put, t_0, t_s, rng_of, li_zz, li_bb, li_clean, li_z, pr_zz, pr_bb, pr_clean, pr_z, ll_zz, ll_bb, ll_cleanO, ll_cleanZ, ll_z, clean, isZ, isZs, cleans, zzs, bbs, Fl.bb, dIn_li, dEq_li, dEq_pr, dEq_ll, dEq_int, taint, taints, li_taint, pr_taint, ll_taint, Fl.tt, li_len, pr_len, ll_len, EV.keyOf, List.map_cons, List.map_nil, List.length_cons, List.length_nil, List.set_cons_zero, List.set_cons_succ, Option.map_some, t21_20, head20_z ht hd, qd_bb] <;> rfl) ?_
  generalize (tl t (1 - d)).1 = p
  generalize (tl t (1 - d)).2 = s
  generalize D.tup [.int i, .int d] = q
  refine step (env' := [some (.lst .z (qd T)), some q, some (.int p), some (.int s), some (.lst .o []), none, none, none, none]) (by simp [evSs, evS, evE.eq_1, evE.eq_2, evE.eq_3, evE.eq_4, evE.eq_5, evE.eq_6, evE.eq_7, evE.eq_8, evE.eq_9, evE.eq_10, evE.eq_11, evE.eq_12, evE.eq_13, evE.eq_14, evE.eq_15, evE.eq_16, evE.eq_17, evE.eq_18, evE.eq_19, evE.eq_20, evE.eq_21, evE.eq_22, evE.eq_23, evE.eq_24, evE.eq_28, evE.eq_30, evE.eq_31, evE.eq_32, evE.eq_33, evE.eq_34, evE.eq_35, evE.eq_36, evE.eq_37, evE.eq_38, evE.eq_39, evE.eq_40, evE.eq_41, evEs, evP, evO, evTo, evT, evAnd, evOr, evTA, evTO, evIt, evB, wp_bind, wp_nx, wp_if, wp_ok, wp_st, ok_bind, ok_nx, ok_rt, EV.R.of_some, rof_if, nxQ_nx, nxQ_rt, wp_noEx, g_0, g_s, s_0, s_s, s_t2, bb, zz, tru_bl, noEx_j, isi_list, isi_int, isi_bool, q_ll, q_llb, lenOk_of, b_add, b_sub, b_mul, b_div, b_mod, b_pow, mulOk_r, mulOk_l, divOk_of, c_lt, c_le, c_gt, c_ge, c_eq, c_ne, c_in, c_ni, dIn_dic, x_lst, x_scr, x_dic, l_lst, l_scr, l_abs, l_int, l_list, l_tup, l_sorted, l_sortedk, i_int, q_lst, q_lstp, q_b, q_bp, q_tup, q_tupp, a_app, a_put, t_0, t_s, rng_of, li_zz, li_bb, li_clean, li_z, pr_zz, pr_bb, pr_clean, pr_z, ll_zz, ll_bb, ll_cleanO, ll_cleanZ, ll_z, clean, isZ, isZs, cleans, zzs, bbs, Fl.bb, dIn_li, dEq_li, dEq_pr, dEq_ll, dEq_int, taint, taints, li_taint, pr_taint, ll_taint, Fl.tt, li_len, pr_len, ll_len, EV.keyOf, List.map_cons, List.map_nil, List.length_cons, List.length_nil, List.set_cons_zero, List.set_cons_succ, Option.map_some, lenOk_of]) ?_
  have hr : rngOk (T.length : Int) = true := rng_of (by omega) (by omega)
  refine ofor (ds := rangeD 0 T.length) (by simp [evSs, evS, evE.eq_1, evE.eq_2, evE.eq_3, evE.eq_4, evE.eq_5, evE.eq_6, evE.eq_7, evE.eq_8, evE.eq_9, evE.eq_10, evE.eq_11, evE.eq_12, evE.eq_13, evE.eq_14, evE.eq_15, evE.eq_16, evE.eq_17, evE.eq_18, evE.eq_19, evE.eq_20, evE.eq_21, evE.eq_22, evE.eq_23, evE.eq_24, evE.eq_28, evE.eq_30, evE.eq_31, evE.eq_32, evE.eq_33, evE.eq_34, evE.eq_35, evE.eq_36, evE.eq_37, evE.eq_38, evE.eq_39, evE.eq_40, evE.eq_41, evEs, evP, evO, evTo, evT, evAnd, evOr, evTA, evTO, evIt, evB, wp_bind, wp_nx, wp_if, wp_ok, wp_st, ok_bind, ok_nx, ok_rt, EV.R.of_some, rof_if, nxQ_nx, nxQ_rt, wp_noEx, g_0, g_s, s_0, s_s, s_t2, bb, zz, tru_bl, noEx_j, isi_list, isi_int, isi_bool, q_ll, q_llb, lenOk_of, b_add, b_sub, b_mul, b_div, b_mod, b_pow, mulOk_r, mulOk_l, divOk_of, c_lt, c_le, c_gt, c_ge, c_eq, c_ne, c_in, c_ni, dIn_dic, x_lst, x_scr, x_dic, l_lst, l_scr, l_abs, l_int, l_list, l_tup, l_sorted, l_sortedk, i_int, q_lst, q_lstp, q_b, q_bp, q_tup, q_tupp, a_app, a_put, t_0, t_s, rng_of, li_zz, li_bb, li_clean, li_z, pr_zz, pr_bb, pr_clean, pr_z, ll_zz, ll_bb, ll_cleanO, ll_cleanZ, ll_z, clean, isZ, isZs, cleans, zzs, bbs, Fl.bb, dIn_li, dEq_li, dEq_pr, dEq_ll, dEq_int, taint, taints, li_taint, pr_taint, ll_taint, Fl.tt, li_len, pr_len, ll_len, EV.keyOf, List.map_cons, List.map_nil, List.length_cons, List.length_nil, List.set_cons_zero, List.set_cons_succ, Option.map_some, qd_bb, qd_len, hr]) ?_
  refine wp_for (I21 T q p s) ⟨_, _, _, _, rfl⟩ ?_ ?_
  · rintro j x e hj ⟨v5, v6, v7, v8, rfl⟩
    obtain ⟨rfl, hj2⟩ := range_get hj
    have hu : T[j]? = some T[j] := List.getElem?_eq_getElem hj2
    have lt : (T.take j).length = j := by rw [List.length_take]; omega
    have lf := fol_len (p := p) (s := s) (T := T.take j)
    refine wp_imp (r := (setTg (.name 5) _ _).bind _) (Q := fun o => ∃ e', o = .nx e' ∧ I21 T q p s (j + 1) e') ?_ (fun o h => by obtain ⟨e', rfl, h⟩ := h; exact post_nx h)
    refine otg (env' := [some (.lst .z (qd T)), some q, some (.int p), some (.int s), some (.lst .o (pr (fol p s (T.take j)))), some (.int j), v6, v7, v8]) (by simp [evSs, evS, evE.eq_1, evE.eq_2, evE.eq_3, evE.eq_4, evE.eq_5, evE.eq_6, evE.eq_7, evE.eq_8, evE.eq_9, evE.eq_10, evE.eq_11, evE.eq_12, evE.eq_13, evE.eq_14, evE.eq_15, evE.eq_16, evE.eq_17, evE.eq_18, evE.eq_19, evE.eq_20, evE.eq_21, evE.eq_22, evE.eq_23, evE.eq_24, evE.eq_28, evE.eq_30, evE.eq_31, evE.eq_32, evE.eq_33, evE.eq_34, evE.eq_35, evE.eq_36, evE.eq_37, evE.eq_38, evE.eq_39, evE.eq_40, evE.eq_41, evEs, evP, evO, evTo, evT, evAnd, evOr, evTA, evTO, evIt, evB, wp_bind, wp_nx, wp_if, wp_ok, wp_st, ok_bind, ok_nx, ok_rt, EV.R.of_some, rof_if, nxQ_nx, nxQ_rt, wp_noEx, g_0, g_s, s_0, s_s, s_t2, bb, zz, tru_bl, noEx_j, isi_list, isi_int, isi_bool, q_ll, q_llb, lenOk_of, b_add, b_sub, b_mul, b_div, b_mod, b_pow, mulOk_r, mulOk_l, divOk_of, c_lt, c_le, c_gt, c_ge, c_eq, c_ne, c_in, c_ni, dIn_dic, x_lst, x_scr, x_dic, l_lst, l_scr, l_abs, l_int, l_list, l_tup, l_sorted, l_sortedk, i_int, q_lst, q_lstp, q_b, q_bp, q_tup, q_tupp, a_app, a_put, t_0, t_s, rng_of, li_zz, li_bb, li_clean, li_z, pr_zz, pr_bb, pr_clean, pr_z, ll_zz, ll_bb, ll_cleanO, ll_cleanZ, ll_z, clean, isZ, isZs, cleans, zzs, bbs, Fl.bb, dIn_li, dEq_li, dEq_pr, dEq_ll, dEq_int, taint, taints, li_taint, pr_taint, ll_taint, Fl.tt, li_len, pr_len, ll_len, EV.keyOf, List.map_cons, List.map_nil, List.length_cons, List.length_nil, List.set_cons_zero, List.set_cons_succ, Option.map_some]) ?_
    have hr2 : rngOk 2 = true := rfl
    refine ofor (ds := rangeD 0 2) (by simp [evSs, evS, evE.eq_1, evE.eq_2, evE.eq_3, evE.eq_4, evE.eq_5, evE.eq_6, evE.eq_7, evE.eq_8, evE.eq_9, evE.eq_10, evE.eq_11, evE.eq_12, evE.eq_13, evE.eq_14, evE.eq_15, evE.eq_16, evE.eq_17, evE.eq_18, evE.eq_19, evE.eq_20, evE.eq_21, evE.eq_22, evE.eq_23, evE.eq_24, evE.eq_28, evE.eq_30, evE.eq_31, evE.eq_32, evE.eq_33, evE.eq_34, evE.eq_35, evE.eq_36, evE.eq_37, evE.eq_38, evE.eq_39, evE.eq_40, evE.eq_41, evEs, evP, evO, evTo, evT, evAnd, evOr, evTA, evTO, evIt, evB, wp_bind, wp_nx, wp_if, wp_ok, wp_st, ok_bind, ok_nx, ok_rt, EV.R.of_some, rof_if, nxQ_nx, nxQ_rt, wp_noEx, g_0, g_s, s_0, s_s, s_t2, bb, zz, tru_bl, noEx_j, isi_list, isi_int, isi_bool, q_ll, q_llb, lenOk_of, b_add, b_sub, b_mul, b_div, b_mod, b_pow, mulOk_r, mulOk_l, divOk_of, c_lt, c_le, c_gt, c_ge, c_eq, c_ne, c_in, c_ni, dIn_dic, x_lst, x_scr, x_dic, l_lst, l_scr, l_abs, l_int, l_list, l_tup, l_sorted, l_sortedk, i_int, q_lst, q_lstp, q_b, q_bp, q_tup, q_tupp, a_app, a_put, t_0, t_s, rng_of, li_zz, li_bb, li_clean, li_z, pr_zz, pr_bb, pr_clean, pr_z, ll_zz, ll_bb, ll_cleanO, ll_cleanZ, ll_z, clean, isZ, isZs, cleans, zzs, bbs, Fl.bb, dIn_li, dEq_li, dEq_pr, dEq_ll, dEq_int, taint, taints, li_taint, pr_taint, ll_taint, Fl.tt, li_len, pr_len, ll_len, EV.keyOf, List.map_cons, List.map_nil, List.length_cons, List.length_nil, List.set_cons_zero, List.set_cons_succ, Option.map_some, hr2]) ?_
    let pt : Nat → List (Int × Int) := fun k => if k = 0 then [] else if k = 1 then part p s j T[j] 0 else part p s j T[j] 0 ++ part p s j T[j] 1
    refine wp_for (fun k e => ∃ v6 v7 v8 : Option D, e = [some (.lst .z (qd T)), some q, some (.int p), some (.int s), some (.lst .o (pr (fol p s (T.take j) ++ pt k))), some (.int j), v6, v7, v8]) ⟨v6, v7, v8, by simp [pt]⟩ ?_ ?_
    · rintro k y e hk ⟨v6, v7, v8, rfl⟩
      obtain ⟨rfl, hk2⟩ := range_get hk
      have hk3 : (k : Int) = 0 ∨ (k : Int) = 1 := by omega
      have lp : (pt k).length ≤ 2 := by
        simp only [pt, part]
        split
        · simp
        · split
          · split <;> simp
          · split <;> split <;> simp
      have ps : pt (k + 1) = pt k ++ part p s j T[j] (k : Int) := by
        have : k = 0 ∨ k = 1 := by omega
        rcases this with rfl | rfl <;> simp [pt]
      refine wp_imp (r := (setTg (.name 6) _ _).bind _) (Q := fun o => ∃ v6 v7 v8 : Option D, o = .nx [some (.lst .z (qd T)), some q, some (.int p), some (.int s), some (.lst .o (pr (fol p s (T.take j) ++ pt (k + 1)))), some (.int j), v6, v7, v8]) ?_ (fun o h => by obtain ⟨a, b, c, rfl⟩ := h; exact post_nx ⟨a, b, c, rfl⟩)
      refine otg (env' := [some (.lst .z (qd T)), some q, some (.int p), some (.int s), some (.lst .o (pr (fol p s (T.take j) ++ pt k))), some (.int j), some (.int k), v7, v8]) (by simp [evSs, evS, evE.eq_1, evE.eq_2, evE.eq_3, evE.eq_4, evE.eq_5, evE.eq_6, evE.eq_7, evE.eq_8, evE.eq_9, evE.eq_10, evE.eq_11, evE.eq_12, evE.eq_13, evE.eq_14, evE.eq_15, evE.eq_16, evE.eq_17, evE.eq_18, evE.eq_19, evE.eq_20, evE.eq_21, evE.eq_22, evE.eq_23, evE.eq_24, evE.eq_28, evE.eq_30, evE.eq_31, evE.eq_32, evE.eq_33, evE.eq_34, evE.eq_35, evE.eq_36, evE.eq_37, evE.eq_38, evE.eq_39, evE.eq_40, evE.eq_41, evEs, evP, evO, evTo, evT, evAnd, evOr, evTA, evTO, evIt, evB, wp_bind, wp_nx, wp_if, wp_ok, wp_st, ok_bind, ok_nx, ok_rt, EV.R.of_some, rof_if, nxQ_nx, nxQ_rt, wp_noEx, g_0, g_s, s_0, s_s, s_t2, bb, zz, tru_bl, noEx_j, isi_list, isi_int, isi_bool, q_ll, q_llb, lenOk_of, b_add, b_sub, b_mul, b_div, b_mod, b_pow, mulOk_r, mulOk_l, divOk_of, c_lt, c_le, c_gt, c_ge, c_eq, c_ne, c_in, c_ni, dIn_dic, x_lst, x_scr, x_dic, l_lst, l_scr, l_abs, l_int, l_list, l_tup, l_sorted, l_sortedk, i_int, q_lst, q_lstp, q_b, q_bp, q_tup, q_tupp, a_app, a_put, t_0, t_s, rng_of, li_zz, li_bb, li_clean, li_z, pr_zz, pr_bb, pr_clean, pr_z, ll_zz, ll_bb, ll_cleanO, ll_cleanZ, ll_z, clean, isZ, isZs, cleans, zzs, bbs, Fl.bb, dIn_li, dEq_li, dEq_pr, dEq_ll, dEq_int, taint, taints, li_taint, pr_taint, ll_taint, Fl.tt, li_len, pr_len, ll_len, EV.keyOf, List.map_cons, List.map_nil, List.length_cons, List.length_nil, List.set_cons_zero, List.set_cons_succ, Option.map_some]) ?_
      rw [ps, ← List.append_assoc]
      have lX : (fol p s (T.take j) ++ pt k).length < 100000 := by rw [List.length_append]; omega
      revert lX
      generalize fol p s (T.take j) ++ pt k = X
      intro lX
      refine step (env' := [some (.lst .z (qd T)), some q, some (.int p), some (.int s), some (.lst .o (pr X)), some (.int j), some (.int k), some (.int (tl T[j] (k : Int)).1), some (.int (tl T[j] (k : Int)).2)]) (by simp [evSs, evS, evE.eq_1, evE.eq_2, evE.eq_3, evE.eq_4, evE.eq_5, evE.eq_6, evE.eq_7, evE.eq_8, evE.eq_9, evE.eq_10, evE.eq_11, evE.eq_12, evE.eq_13, evE.eq_14, evE.eq_15, evE.eq_16, evE.eq_17, evE.eq_18, evE.eq_19, evE.eq_20, evE.eq_21, evE.eq_22, evE.eq_23, evE.eq_24, evE.eq_28, evE.eq_30, evE.eq_31, evE.eq_32, evE.eq_33, evE.eq_34, evE.eq_35, evE.eq_36, evE.eq_37, evE.eq_38, evE.eq_39, evE.eq_40, evE.eq_41, evEs, evP, evO, evTo, evT, evAnd, evOr, evTA, evTO, evIt, evB, wp_bind, wp_nx, wp_if, wp_ok, wp_st, ok_bind, ok_nx, ok_rt, EV.R.of_some, rof_if, nxQ_nx, nxQ_rt, wp_noEx, g_0, g_s, s_0, s_s, s_t2, bb, zz, tru_bl, noEx_j, isi_list, isi_int, isi_bool, q_ll, q_llb, lenOk_of, b_add, b_sub, b_mul, b_div, b_mod, b_pow, mulOk_r, mulOk_l, divOk_of, c_lt, c_le, c_gt, c_ge, c_eq, c_ne, c_in, c_ni, dIn_dic, x_lst, x_scr, x_dic, l_lst, l_scr, l_abs, l_int, l_list, l_tup, l_sorted, l_sortedk, i_int, q_lst, q_lstp, q_b, q_bp, q_tup, q_tupp, a_app, a_put, t_0, t_s, rng_of, li_zz, li_bb, li_clean, li_z, pr_zz, pr_bb, pr_clean, pr_z, ll_zz, ll_bb, ll_cleanO, ll_cleanZ, ll_z, clean, isZ, isZs, cleans, zzs, bbs, Fl.bb, dIn_li, dEq_li, dEq_pr, dEq_ll, dEq_int, taint, taints, li_taint, pr_taint, ll_taint, Fl.tt, li_len, pr_len, ll_len, EV.keyOf, List.map_cons, List.map_nil, List.length_cons, List.length_nil, List.set_cons_zero, List.set_cons_succ, Option.map_some, t21_19, tail19_z hu hk3, qd_bb, lenOk_of]) ?_
      unfold part
      by_cases c1 : (tl T[j] (k : Int)).1 = p
      · by_cases c2 : (tl T[j] (k : Int)).2 = s
        · refine step_no (by simp [evSs, evS, evE.eq_1, evE.eq_2, evE.eq_3, evE.eq_4, evE.eq_5, evE.eq_6, evE.eq_7, evE.eq_8, evE.eq_9, evE.eq_10, evE.eq_11, evE.eq_12, evE.eq_13, evE.eq_14, evE.eq_15, evE.eq_16, evE.eq_17, evE.eq_18, evE.eq_19, evE.eq_20, evE.eq_21, evE.eq_22, evE.eq_23, evE.eq_24, evE.eq_28, evE.eq_30, evE.eq_31, evE.eq_32, evE.eq_33, evE.eq_34, evE.eq_35, evE.eq_36, evE.eq_37, evE.eq_38, evE.eq_39, evE.eq_40, evE.eq_41, evEs, evP, evO, evTo, evT, evAnd, evOr, evTA, evTO, evIt, evB, wp_bind, wp_nx, wp_if, wp_ok, wp_st, ok_bind, ok_nx, ok_rt, EV.R.of_some, rof_if, nxQ_nx, nxQ_rt, wp_noEx, g_0, g_s, s_0, s_s, s_t2, bb, zz, tru_bl, noEx_j, isi_list, isi_int, isi_bool, q_ll, q_llb, lenOk_of, b_add, b_sub, b_mul, b_div, b_mod, b_pow, mulOk_r, mulOk_l, divOk_of, c_lt, c_le, c_gt, c_ge, c_eq, c_ne, c_in, c_ni, dIn_dic, x_lst, x_scr, x_dic, l_lst, l_scr, l_abs, l_int, l_list, l_tup, l_sorted, l_sortedk, i_int, q_lst, q_lstp, q_b, q_bp, q_tup, q_tupp, a_app, a_put, t_0, t_s, rng_of, li_zz, li_bb, li_clean, li_z, pr_zz, pr_bb, pr_clean, pr_z, ll_zz, ll_bb, ll_cleanO, ll_cleanZ, ll_z, clean, isZ, isZs, cleans, zzs, bbs, Fl.bb, dIn_li, dEq_li, dEq_pr, dEq_ll, dEq_int, taint, taints, li_taint, pr_taint, ll_taint, Fl.tt, li_len, pr_len, ll_len, EV.keyOf, List.map_cons, List.map_nil, List.length_cons, List.length_nil, List.set_cons_zero, List.set_cons_succ, Option.map_some, c1, c2]) ?_
          rw [if_neg (by simp [c2]), List.append_nil]
          exact ⟨_, rfl, _, _, _, rfl⟩
        · refine step_yes (by simp [evSs, evS, evE.eq_1, evE.eq_2, evE.eq_3, evE.eq_4, evE.eq_5, evE.eq_6, evE.eq_7, evE.eq_8, evE.eq_9, evE.eq_10, evE.eq_11, evE.eq_12, evE.eq_13, evE.eq_14, evE.eq_15, evE.eq_16, evE.eq_17, evE.eq_18, evE.eq_19, evE.eq_20, evE.eq_21, evE.eq_22, evE.eq_23, evE.eq_24, evE.eq_28, evE.eq_30, evE.eq_31, evE.eq_32, evE.eq_33, evE.eq_34, evE.eq_35, evE.eq_36, evE.eq_37, evE.eq_38, evE.eq_39, evE.eq_40, evE.eq_41, evEs, evP, evO, evTo, evT, evAnd, evOr, evTA, evTO, evIt, evB, wp_bind, wp_nx, wp_if, wp_ok, wp_st, ok_bind, ok_nx, ok_rt, EV.R.of_some, rof_if, nxQ_nx, nxQ_rt, wp_noEx, g_0, g_s, s_0, s_s, s_t2, bb, zz, tru_bl, noEx_j, isi_list, isi_int, isi_bool, q_ll, q_llb, lenOk_of, b_add, b_sub, b_mul, b_div, b_mod, b_pow, mulOk_r, mulOk_l, divOk_of, c_lt, c_le, c_gt, c_ge, c_eq, c_ne, c_in, c_ni, dIn_dic, x_lst, x_scr, x_dic, l_lst, l_scr, l_abs, l_int, l_list, l_tup, l_sorted, l_sortedk, i_int, q_lst, q_lstp, q_b, q_bp, q_tup, q_tupp, a_app, a_put, t_0, t_s, rng_of, li_zz, li_bb, li_clean, li_z, pr_zz, pr_bb, pr_clean, pr_z, ll_zz, ll_bb, ll_cleanO, ll_cleanZ, ll_z, clean, isZ, isZs, cleans, zzs, bbs, Fl.bb, dIn_li, dEq_li, dEq_pr, dEq_ll, dEq_int, taint, taints, li_taint, pr_taint, ll_taint, Fl.tt, li_len, pr_len, ll_len, EV.keyOf, List.map_cons, List.map_nil, List.length_cons, List.length_nil, List.set_cons_zero, List.set_cons_succ, Option.map_some, c1, c2]) ?_
          rw [if_pos ⟨c1, c2⟩]
          refine step (app_ok lX) ?_
          exact ⟨_, rfl, _, rfl, _, _, _, rfl⟩
      · refine step_no (by simp [evSs, evS, evE.eq_1, evE.eq_2, evE.eq_3, evE.eq_4, evE.eq_5, evE.eq_6, evE.eq_7, evE.eq_8, evE.eq_9, evE.eq_10, evE.eq_11, evE.eq_12, evE.eq_13, evE.eq_14, evE.eq_15, evE.eq_16, evE.eq_17, evE.eq_18, evE.eq_19, evE.eq_20, evE.eq_21, evE.eq_22, evE.eq_23, evE.eq_24, evE.eq_28, evE.eq_30, evE.eq_31, evE.eq_32, evE.eq_33, evE.eq_34, evE.eq_35, evE.eq_36, evE.eq_37, evE.eq_38, evE.eq_39, evE.eq_40, evE.eq_41, evEs, evP, evO, evTo, evT, evAnd, evOr, evTA, evTO, evIt, evB, wp_bind, wp_nx, wp_if, wp_ok, wp_st, ok_bind, ok_nx, ok_rt, EV.R.of_some, rof_if, nxQ_nx, nxQ_rt, wp_noEx, g_0, g_s, s_0, s_s, s_t2, bb, zz, tru_bl, noEx_j, isi_list, isi_int, isi_bool, q_ll, q_llb, lenOk_of, b_add, b_sub, b_mul, b_div, b_mod, b_pow, mulOk_r, mulOk_l, divOk_of, c_lt, c_le, c_gt, c_ge, c_eq, c_ne, c_in, c_ni, dIn_dic, x_lst, x_scr, x_dic, l_lst, l_scr, l_abs, l_int, l_list, l_tup, l_sorted, l_sortedk, i_int, q_lst, q_lstp, q_b, q_bp, q_tup, q_tupp, a_app, a_put, t_0, t_s, rng_of, li_zz, li_bb, li_clean, li_z, pr_zz, pr_bb, pr_clean, pr_z, ll_zz, ll_bb, ll_cleanO, ll_cleanZ, ll_z, clean, isZ, isZs, cleans, zzs, bbs, Fl.bb, dIn_li, dEq_li, dEq_pr, dEq_ll, dEq_int, taint, taints, li_taint, pr_taint, ll_taint, Fl.tt, li_len, pr_len, ll_len, EV.keyOf, List.map_cons, List.map_nil, List.length_cons, List.length_nil, List.set_cons_zero, List.set_cons_succ, Option.map_some, c1]) ?_
        rw [if_neg (by simp [c1]), List.append_nil]
        exact ⟨_, rfl, _, _, _, rfl⟩
    · rintro e ⟨v6, v7, v8, rfl⟩
      rw [range_len]
      refine ⟨_, rfl, _, rfl, some (.int j), v6, v7, v8, ?_⟩
      rw [take_next hu, fol_app, lt]
      simp [pt]
  · rintro e ⟨v5, v6, v7, v8, rfl⟩
    rw [range_len, List.take_length, nxQ_nx]
    simp [evSs, evS, evE.eq_1, evE.eq_2, evE.eq_3, evE.eq_4, evE.eq_5, evE.eq_6, evE.eq_7, evE.eq_8, evE.eq_9, evE.eq_10, evE.eq_11, evE.eq_12, evE.eq_13, evE.eq_14, evE.eq_15, evE.eq_16, evE.eq_17, evE.eq_18, evE.eq_19, evE.eq_20, evE.eq_21, evE.eq_22, evE.eq_23, evE.eq_24, evE.eq_28, evE.eq_30, evE.eq_31, evE.eq_32, evE.eq_33, evE.eq_34, evE.eq_35, evE.eq_36, evE.eq_37, evE.eq_38, evE.eq_39, evE.eq_40, evE.eq_41, evEs, evP, evO, evTo, evT, evAnd, evOr, evTA, evTO, evIt, evB, wp_bind, wp_nx, wp_if, wp_ok, wp_st, ok_bind, ok_nx, ok_rt, EV.R.of_some, rof_if, nxQ_nx, nxQ_rt, wp_noEx, g_0, g_s, s_0, s_s, s_t2, bb, zz, tru_bl, noEx_j, isi_list, isi_int, isi_bool, q_ll, q_llb, lenOk_of, b_add, b_sub, b_mul, b_div, b_mod, b_pow, mulOk_r, mulOk_l, divOk_of, c_lt, c_le, c_gt, c_ge, c_eq, c_ne, c_in, c_ni, dIn_dic, x_lst, x_scr, x_dic, l_lst, l_scr, l_abs, l_int, l_list, l_tup, l_sorted, l_sortedk, i_int, q_lst, q_lstp, q_b, q_bp, q_tup, q_tupp, a_app, a_put, t_0, t_s, rng_of, li_zz, li_bb, li_clean, li_z, pr_zz, pr_bb, pr_clean, pr_z, ll_zz, ll_bb, ll_cleanO, ll_cleanZ, ll_z, clean, isZ, isZs, cleans, zzs, bbs, Fl.bb, dIn_li, dEq_li, dEq_pr, dEq_ll, dEq_int, taint, taints, li_taint, pr_taint, ll_taint, Fl.tt, li_len, pr_len, ll_len, EV.keyOf, List.map_cons, List.map_nil, List.length_cons, List.length_nil, List.set_cons_zero, List.set_cons_succ, Option.map_some]
theorem fol21_call {T : List Tie} {i : Nat} {t : Tie} {d : Int} (ht : T[i]? = some t) (hd : d = 0 ∨ d = 1) (hT : T.length ≤ 300) : callD F21 [.lst .z (qd T), .tup [.int i, .int d]] = .ok (.lst .o (pr (fol (tl t (1 - d)).1 (tl t (1 - d)).2 T))) :=
  callD_v rfl (by simp only [zzs, zz, qd_zz]; exact fol21 ht hd hT) (.inl (by simp [cleans, clean, qd_clean]))
theorem num_call (i : Int) : callD F24 [.int i] = .ok (.bl true) := by
  refine callD_v rfl (wp_eq ?_) (.inl rfl)
  simp [F24, runF, dr24, zzs, zz, evSs, evS, evE, evEs, evP, evO, evTo, evT, evAnd, evOr, evTA, evTO, evIt, evB, wp_bind, wp_nx, wp_if, wp_ok, wp_st, ok_bind, ok_nx, ok_rt, EV.R.of_some, rof_if, nxQ_nx, nxQ_rt, wp_noEx, g_0, g_s, s_0, s_s, s_t2, bb, zz, tru_bl, noEx_j, isi_list, isi_int, isi_bool, q_ll, q_llb, lenOk_of, b_add, b_sub, b_mul, b_div, b_mod, b_pow, mulOk_r, mulOk_l, divOk_of, c_lt, c_le, c_gt, c_ge, c_eq, c_ne, c_in, c_ni, dIn_dic, x_lst, x_scr, x_dic, l_lst, l_scr, l_abs, l_int, l_list, l_tup, l_sorted, l_sortedk, i_int, q_lst, q_lstp, q_b, q_bp, q_tup, q_tupp, a_app, a_put, t_0, t_s, rng_of, li_zz, li_bb, li_clean, li_z, pr_zz, pr_bb, pr_clean, pr_z, ll_zz, ll_bb, ll_cleanO, ll_cleanZ, ll_z, clean, isZ, isZs, cleans, zzs, bbs, Fl.bb, dIn_li, dEq_li, dEq_pr, dEq_ll, dEq_int, taint, taints, li_taint, pr_taint, ll_taint, Fl.tt, li_len, pr_len, ll_len, EV.keyOf, List.map_cons, List.map_nil, List.length_cons, List.length_nil, List.set_cons_zero, List.set_cons_succ, Option.map_some]
theorem steps_ok {A : List (Int × Int)} (hl : A.length ≤ 1000000) : F25.sem [.lst .z (pr A), .lst .z (pr A)] = .ok (.bl true) := by
  refine run_eq ?_
  show Wp (evSs T25 dr25.body [some (.lst .z (pr A)), some (.lst .z (pr A)), none]) _
  unfold dr25
  refine step_no (by simp [evSs, evS, evE.eq_1, evE.eq_2, evE.eq_3, evE.eq_4, evE.eq_5, evE.eq_6, evE.eq_7, evE.eq_8, evE.eq_9, evE.eq_10, evE.eq_11, evE.eq_12, evE.eq_13, evE.eq_14, evE.eq_15, evE.eq_16, evE.eq_17, evE.eq_18, evE.eq_19, evE.eq_20, evE.eq_21, evE.eq_22, evE.eq_23, evE.eq_24, evE.eq_28, evE.eq_30, evE.eq_31, evE.eq_32, evE.eq_33, evE.eq_34, evE.eq_35, evE.eq_36, evE.eq_37, evE.eq_38, evE.eq_39, evE.eq_40, evE.eq_41, evEs, evP, evO, evTo, evT, evAnd, evOr, evTA, evTO, evIt, evB, wp_bind, wp_nx, wp_if, wp_ok, wp_st, ok_bind, ok_nx, ok_rt, EV.R.of_some, rof_if, nxQ_nx, nxQ_rt, wp_noEx, g_0, g_s, s_0, s_s, s_t2, bb, zz, tru_bl, noEx_j, isi_list, isi_int, isi_bool, q_ll, q_llb, lenOk_of, b_add, b_sub, b_mul, b_div, b_mod, b_pow, mulOk_r, mulOk_l, divOk_of, c_lt, c_le, c_gt, c_ge, c_eq, c_ne, c_in, c_ni, dIn_dic, x_lst, x_scr, x_dic, l_lst, l_scr, l_abs, l_int, l_list, l_tup, l_sorted, l_sortedk, i_int, q_lst, q_lstp, q_b, q_bp, q_tup, q_tupp, a_app, a_put, t_0, t_s, rng_of, li_zz, li_bb, li_clean, li_z, pr_zz, pr_bb, pr_clean, pr_z, ll_zz, ll_bb, ll_cleanO, ll_cleanZ, ll_z, clean, isZ, isZs, cleans, zzs, bbs, Fl.bb, dIn_li, dEq_li, dEq_pr, dEq_ll, dEq_int, taint, taints, li_taint, pr_taint, ll_taint, Fl.tt, li_len, pr_len, ll_len, EV.keyOf, List.map_cons, List.map_nil, List.length_cons, List.length_nil, List.set_cons_zero, List.set_cons_succ, Option.map_some]) ?_
  have hr : rngOk (A.length : Int) = true := rng_of (by omega) (by omega)
  refine ofor (ds := rangeD 0 A.length) (by simp [evSs, evS, evE.eq_1, evE.eq_2, evE.eq_3, evE.eq_4, evE.eq_5, evE.eq_6, evE.eq_7, evE.eq_8, evE.eq_9, evE.eq_10, evE.eq_11, evE.eq_12, evE.eq_13, evE.eq_14, evE.eq_15, evE.eq_16, evE.eq_17, evE.eq_18, evE.eq_19, evE.eq_20, evE.eq_21, evE.eq_22, evE.eq_23, evE.eq_24, evE.eq_28, evE.eq_30, evE.eq_31, evE.eq_32, evE.eq_33, evE.eq_34, evE.eq_35, evE.eq_36, evE.eq_37, evE.eq_38, evE.eq_39, evE.eq_40, evE.eq_41, evEs, evP, evO, evTo, evT, evAnd, evOr, evTA, evTO, evIt, evB, wp_bind, wp_nx, wp_if, wp_ok, wp_st, ok_bind, ok_nx, ok_rt, EV.R.of_some, rof_if, nxQ_nx, nxQ_rt, wp_noEx, g_0, g_s, s_0, s_s, s_t2, bb, zz, tru_bl, noEx_j, isi_list, isi_int, isi_bool, q_ll, q_llb, lenOk_of, b_add, b_sub, b_mul, b_div, b_mod, b_pow, mulOk_r, mulOk_l, divOk_of, c_lt, c_le, c_gt, c_ge, c_eq, c_ne, c_in, c_ni, dIn_dic, x_lst, x_scr, x_dic, l_lst, l_scr, l_abs, l_int, l_list, l_tup, l_sorted, l_sortedk, i_int, q_lst, q_lstp, q_b, q_bp, q_tup, q_tupp, a_app, a_put, t_0, t_s, rng_of, li_zz, li_bb, li_clean, li_z, pr_zz, pr_bb, pr_clean, pr_z, ll_zz, ll_bb, ll_cleanO, ll_cleanZ, ll_z, clean, isZ, isZs, cleans, zzs, bbs, Fl.bb, dIn_li, dEq_li, dEq_pr, dEq_ll, dEq_int, taint, taints, li_taint, pr_taint, ll_taint, Fl.tt, li_len, pr_len, ll_len, EV.keyOf, List.map_cons, List.map_nil, List.length_cons, List.length_nil, List.set_cons_zero, List.set_cons_succ, Option.map_some, hr]) ?_
  refine wp_for (fun _ e => ∃ v : Option D, e = [some (.lst .z (pr A)), some (.lst .z (pr A)), v]) ⟨_, rfl⟩ ?_ ?_
  · rintro i x e hi ⟨v, rfl⟩
    obtain ⟨rfl, hi2⟩ := range_get hi
    have ha : atI (pr A) (i : Int) = some (.tup [.int A[i].1, .int A[i].2]) := atI_nat (by rw [pr_get, List.getElem?_eq_getElem hi2]; rfl)
    refine wp_imp (r := (setTg (.name 2) _ _).bind _) (Q := fun o => ∃ v : Option D, o = .nx [some (.lst .z (pr A)), some (.lst .z (pr A)), v]) ?_ (fun o h => by obtain ⟨a, rfl⟩ := h; exact post_nx ⟨a, rfl⟩)
    refine otg (env' := [some (.lst .z (pr A)), some (.lst .z (pr A)), some (.int i)]) (by simp [evSs, evS, evE.eq_1, evE.eq_2, evE.eq_3, evE.eq_4, evE.eq_5, evE.eq_6, evE.eq_7, evE.eq_8, evE.eq_9, evE.eq_10, evE.eq_11, evE.eq_12, evE.eq_13, evE.eq_14, evE.eq_15, evE.eq_16, evE.eq_17, evE.eq_18, evE.eq_19, evE.eq_20, evE.eq_21, evE.eq_22, evE.eq_23, evE.eq_24, evE.eq_28, evE.eq_30, evE.eq_31, evE.eq_32, evE.eq_33, evE.eq_34, evE.eq_35, evE.eq_36, evE.eq_37, evE.eq_38, evE.eq_39, evE.eq_40, evE.eq_41, evEs, evP, evO, evTo, evT, evAnd, evOr, evTA, evTO, evIt, evB, wp_bind, wp_nx, wp_if, wp_ok, wp_st, ok_bind, ok_nx, ok_rt, EV.R.of_some, rof_if, nxQ_nx, nxQ_rt, wp_noEx, g_0, g_s, s_0, s_s, s_t2, bb, zz, tru_bl, noEx_j, isi_list, isi_int, isi_bool, q_ll, q_llb, lenOk_of, b_add, b_sub, b_mul, b_div, b_mod, b_pow, mulOk_r, mulOk_l, divOk_of, c_lt, c_le, c_gt, c_ge, c_eq, c_ne, c_in, c_ni, dIn_dic, x_lst, x_scr, x_dic, l_lst, l_scr, l_abs, l_int, l_list, l_tup, l_sorted, l_sortedk, i_int, q_lst, q_lstp, q_b, q_bp, q_tup, q_tupp, a_app, a_put, t_0, t_s, rng_of, li_zz, li_bb, li_clean, li_z, pr_zz, pr_bb, pr_clean, pr_z, ll_zz, ll_bb, ll_cleanO, ll_cleanZ, ll_z, clean, isZ, isZs, cleans, zzs, bbs, Fl.bb, dIn_li, dEq_li, dEq_pr, dEq_ll, dEq_int, taint, taints, li_taint, pr_taint, ll_taint, Fl.tt, li_len, pr_len, ll_len, EV.keyOf, List.map_cons, List.map_nil, List.length_cons, List.length_nil, List.set_cons_zero, List.set_cons_succ, Option.map_some]) ?_
    refine step_no (by simp [evSs, evS, evE.eq_1, evE.eq_2, evE.eq_3, evE.eq_4, evE.eq_5, evE.eq_6, evE.eq_7, evE.eq_8, evE.eq_9, evE.eq_10, evE.eq_11, evE.eq_12, evE.eq_13, evE.eq_14, evE.eq_15, evE.eq_16, evE.eq_17, evE.eq_18, evE.eq_19, evE.eq_20, evE.eq_21, evE.eq_22, evE.eq_23, evE.eq_24, evE.eq_28, evE.eq_30, evE.eq_31, evE.eq_32, evE.eq_33, evE.eq_34, evE.eq_35, evE.eq_36, evE.eq_37, evE.eq_38, evE.eq_39, evE.eq_40, evE.eq_41, evEs, evP, evO, evTo, evT, evAnd, evOr, evTA, evTO, evIt, evB, wp_bind, wp_nx, wp_if, wp_ok, wp_st, ok_bind, ok_nx, ok_rt, EV.R.of_some, rof_if, nxQ_nx, nxQ_rt, wp_noEx, g_0, g_s, s_0, s_s, s_t2, bb, zz, tru_bl, noEx_j, isi_list, isi_int, isi_bool, q_ll, q_llb, lenOk_of, b_add, b_sub, b_mul, b_div, b_mod, b_pow, mulOk_r, mulOk_l, divOk_of, c_lt, c_le, c_gt, c_ge, c_eq, c_ne, c_in, c_ni, dIn_dic, x_lst, x_scr, x_dic, l_lst, l_scr, l_abs, l_int, l_list, l_tup, l_sorted, l_sortedk, i_int, q_lst, q_lstp, q_b, q_bp, q_tup, q_tupp, a_app, a_put, t_0, t_s, rng_of, li_zz, li_bb, li_clean, li_z, pr_zz, pr_bb, pr_clean, pr_z, ll_zz, ll_bb, ll_cleanO, ll_cleanZ, ll_z, clean, isZ, isZs, cleans, zzs, bbs, Fl.bb, dIn_li, dEq_li, dEq_pr, dEq_ll, dEq_int, taint, taints, li_taint, pr_taint, ll_taint, Fl.tt, li_len, pr_len, ll_len, EV.keyOf, List.map_cons, List.map_nil, List.length_cons, List.length_nil, List.set_cons_zero, List.set_cons_succ, Option.map_some, ha, isi_tup, l_ttup]) ?_
    refine step_no ?_ ⟨_, rfl, _, rfl⟩
    have h1 : evT T25 (.not (.v (.call 24 (.cons (.ix (.ix (.slot 0) (.slot 2)) (.int 0)) .nil)))) [some (.lst .z (pr A)), some (.lst .z (pr A)), some (.int i)] = .ok false := by simp [evSs, evS, evE.eq_1, evE.eq_2, evE.eq_3, evE.eq_4, evE.eq_5, evE.eq_6, evE.eq_7, evE.eq_8, evE.eq_9, evE.eq_10, evE.eq_11, evE.eq_12, evE.eq_13, evE.eq_14, evE.eq_15, evE.eq_16, evE.eq_17, evE.eq_18, evE.eq_19, evE.eq_20, evE.eq_21, evE.eq_22, evE.eq_23, evE.eq_24, evE.eq_28, evE.eq_30, evE.eq_31, evE.eq_32, evE.eq_33, evE.eq_34, evE.eq_35, evE.eq_36, evE.eq_37, evE.eq_38, evE.eq_39, evE.eq_40, evE.eq_41, evEs, evP, evO, evTo, evT, evAnd, evOr, evTA, evTO, evIt, evB, wp_bind, wp_nx, wp_if, wp_ok, wp_st, ok_bind, ok_nx, ok_rt, EV.R.of_some, rof_if, nxQ_nx, nxQ_rt, wp_noEx, g_0, g_s, s_0, s_s, s_t2, bb, zz, tru_bl, noEx_j, isi_list, isi_int, isi_bool, q_ll, q_llb, lenOk_of, b_add, b_sub, b_mul, b_div, b_mod, b_pow, mulOk_r, mulOk_l, divOk_of, c_lt, c_le, c_gt, c_ge, c_eq, c_ne, c_in, c_ni, dIn_dic, x_lst, x_scr, x_dic, l_lst, l_scr, l_abs, l_int, l_list, l_tup, l_sorted, l_sortedk, i_int, q_lst, q_lstp, q_b, q_bp, q_tup, q_tupp, a_app, a_put, t_0, t_s, rng_of, li_zz, li_bb, li_clean, li_z, pr_zz, pr_bb, pr_clean, pr_z, ll_zz, ll_bb, ll_cleanO, ll_cleanZ, ll_z, clean, isZ, isZs, cleans, zzs, bbs, Fl.bb, dIn_li, dEq_li, dEq_pr, dEq_ll, dEq_int, taint, taints, li_taint, pr_taint, ll_taint, Fl.tt, li_len, pr_len, ll_len, EV.keyOf, List.map_cons, List.map_nil, List.length_cons, List.length_nil, List.set_cons_zero, List.set_cons_succ, Option.map_some, ha, x_tup, x_p0, t25_24, num_call]
    have h2 : evT T25 (.not (.v (.call 24 (.cons (.ix (.ix (.slot 0) (.slot 2)) (.int 1)) .nil)))) [some (.lst .z (pr A)), some (.lst .z (pr A)), some (.int i)] = .ok false := by simp [evSs, evS, evE.eq_1, evE.eq_2, evE.eq_3, evE.eq_4, evE.eq_5, evE.eq_6, evE.eq_7, evE.eq_8, evE.eq_9, evE.eq_10, evE.eq_11, evE.eq_12, evE.eq_13, evE.eq_14, evE.eq_15, evE.eq_16, evE.eq_17, evE.eq_18, evE.eq_19, evE.eq_20, evE.eq_21, evE.eq_22, evE.eq_23, evE.eq_24, evE.eq_28, evE.eq_30, evE.eq_31, evE.eq_32, evE.eq_33, evE.eq_34, evE.eq_35, evE.eq_36, evE.eq_37, evE.eq_38, evE.eq_39, evE.eq_40, evE.eq_41, evEs, evP, evO, evTo, evT, evAnd, evOr, evTA, evTO, evIt, evB, wp_bind, wp_nx, wp_if, wp_ok, wp_st, ok_bind, ok_nx, ok_rt, EV.R.of_some, rof_if, nxQ_nx, nxQ_rt, wp_noEx, g_0, g_s, s_0, s_s, s_t2, bb, zz, tru_bl, noEx_j, isi_list, isi_int, isi_bool, q_ll, q_llb, lenOk_of, b_add, b_sub, b_mul, b_div, b_mod, b_pow, mulOk_r, mulOk_l, divOk_of, c_lt, c_le, c_gt, c_ge, c_eq, c_ne, c_in, c_ni, dIn_dic, x_lst, x_scr, x_dic, l_lst, l_scr, l_abs, l_int, l_list, l_tup, l_sorted, l_sortedk, i_int, q_lst, q_lstp, q_b, q_bp, q_tup, q_tupp, a_app, a_put, t_0, t_s, rng_of, li_zz, li_bb, li_clean, li_z, pr_zz, pr_bb, pr_clean, pr_z, ll_zz, ll_bb, ll_cleanO, ll_cleanZ, ll_z, clean, isZ, isZs, cleans, zzs, bbs, Fl.bb, dIn_li, dEq_li, dEq_pr, dEq_ll, dEq_int, taint, taints, li_taint, pr_taint, ll_taint, Fl.tt, li_len, pr_len, ll_len, EV.keyOf, List.map_cons, List.map_nil, List.length_cons, List.length_nil, List.set_cons_zero, List.set_cons_succ, Option.map_some, ha, x_tup, x_p1, t25_24, num_call]
    have h3 : evT T25 (.b (.cmp .ne (.ix (.slot 0) (.slot 2)) (.ix (.slot 1) (.slot 2)))) [some (.lst .z (pr A)), some (.lst .z (pr A)), some (.int i)] = .ok false := by simp [evSs, evS, evE.eq_1, evE.eq_2, evE.eq_3, evE.eq_4, evE.eq_5, evE.eq_6, evE.eq_7, evE.eq_8, evE.eq_9, evE.eq_10, evE.eq_11, evE.eq_12, evE.eq_13, evE.eq_14, evE.eq_15, evE.eq_16, evE.eq_17, evE.eq_18, evE.eq_19, evE.eq_20, evE.eq_21, evE.eq_22, evE.eq_23, evE.eq_24, evE.eq_28, evE.eq_30, evE.eq_31, evE.eq_32, evE.eq_33, evE.eq_34, evE.eq_35, evE.eq_36, evE.eq_37, evE.eq_38, evE.eq_39, evE.eq_40, evE.eq_41, evEs, evP, evO, evTo, evT, evAnd, evOr, evTA, evTO, evIt, evB, wp_bind, wp_nx, wp_if, wp_ok, wp_st, ok_bind, ok_nx, ok_rt, EV.R.of_some, rof_if, nxQ_nx, nxQ_rt, wp_noEx, g_0, g_s, s_0, s_s, s_t2, bb, zz, tru_bl, noEx_j, isi_list, isi_int, isi_bool, q_ll, q_llb, lenOk_of, b_add, b_sub, b_mul, b_div, b_mod, b_pow, mulOk_r, mulOk_l, divOk_of, c_lt, c_le, c_gt, c_ge, c_eq, c_ne, c_in, c_ni, dIn_dic, x_lst, x_scr, x_dic, l_lst, l_scr, l_abs, l_int, l_list, l_tup, l_sorted, l_sortedk, i_int, q_lst, q_lstp, q_b, q_bp, q_tup, q_tupp, a_app, a_put, t_0, t_s, rng_of, li_zz, li_bb, li_clean, li_z, pr_zz, pr_bb, pr_clean, pr_z, ll_zz, ll_bb, ll_cleanO, ll_cleanZ, ll_z, clean, isZ, isZs, cleans, zzs, bbs, Fl.bb, dIn_li, dEq_li, dEq_pr, dEq_ll, dEq_int, taint, taints, li_taint, pr_taint, ll_taint, Fl.tt, li_len, pr_len, ll_len, EV.keyOf, List.map_cons, List.map_nil, List.length_cons, List.length_nil, List.set_cons_zero, List.set_cons_succ, Option.map_some, ha, dEq_p2]
    simp [evT.eq_5, evTO, h1, h2, h3, ok_bind]
  · rintro e ⟨v, rfl⟩
    rw [nxQ_nx]
    exact step_ret (d := .bl true) (by simp [evSs, evS, evE.eq_1, evE.eq_2, evE.eq_3, evE.eq_4, evE.eq_5, evE.eq_6, evE.eq_7, evE.eq_8, evE.eq_9, evE.eq_10, evE.eq_11, evE.eq_12, evE.eq_13, evE.eq_14, evE.eq_15, evE.eq_16, evE.eq_17, evE.eq_18, evE.eq_19, evE.eq_20, evE.eq_21, evE.eq_22, evE.eq_23, evE.eq_24, evE.eq_28, evE.eq_30, evE.eq_31, evE.eq_32, evE.eq_33, evE.eq_34, evE.eq_35, evE.eq_36, evE.eq_37, evE.eq_38, evE.eq_39, evE.eq_40, evE.eq_41, evEs, evP, evO, evTo, evT, evAnd, evOr, evTA, evTO, evIt, evB, wp_bind, wp_nx, wp_if, wp_ok, wp_st, ok_bind, ok_nx, ok_rt, EV.R.of_some, rof_if, nxQ_nx, nxQ_rt, wp_noEx, g_0, g_s, s_0, s_s, s_t2, bb, zz, tru_bl, noEx_j, isi_list, isi_int, isi_bool, q_ll, q_llb, lenOk_of, b_add, b_sub, b_mul, b_div, b_mod, b_pow, mulOk_r, mulOk_l, divOk_of, c_lt, c_le, c_gt, c_ge, c_eq, c_ne, c_in, c_ni, dIn_dic, x_lst, x_scr, x_dic, l_lst, l_scr, l_abs, l_int, l_list, l_tup, l_sorted, l_sortedk, i_int, q_lst, q_lstp, q_b, q_bp, q_tup, q_tupp, a_app, a_put, t_0, t_s, rng_of, li_zz, li_bb, li_clean, li_z, pr_zz, pr_bb, pr_clean, pr_z, ll_zz, ll_bb, ll_cleanO, ll_cleanZ, ll_z, clean, isZ, isZs, cleans, zzs, bbs, Fl.bb, dIn_li, dEq_li, dEq_pr, dEq_ll, dEq_int, taint, taints, li_taint, pr_taint, ll_taint, Fl.tt, li_len, pr_len, ll_len, EV.keyOf, List.map_cons, List.map_nil, List.length_cons, List.length_nil, List.set_cons_zero, List.set_cons_succ, Option.map_some]) rfl
theorem steps_call {f : Fl} {A : List (Int × Int)} (hl : A.length ≤ 1000000) : callD F25 [.lst f (pr A), .lst .z (pr A)] = .ok (.bl true) :=
  callD_v rfl (by simp only [zzs, zz, pr_zz]; exact steps_ok hl) (.inr bl_back)
end K08
namespace K08
open PySem L2 EV
theorem place_ok {S : List Int} {T : List Tie} (w : WebOk S T) {i : Nat} {t : Tie} (d : Int) (ht : T[i]? = some t) : 0 ≤ (tl t d).1 ∧ (tl t d).1 < S.length := by
  obtain ⟨h1, h2, h3, h4, h5, h6, h7, h8⟩ := w.t t (List.mem_of_getElem? ht)
  unfold tl
  split
  · exact ⟨h1, h2⟩
  · exact ⟨h5, h6⟩
theorem frz_bl {b : Bool} : zz (.bl b) = .bl b := rfl
theorem step_right {o : D} {S : List Int} {T : List Tie} (h : Ob o S T) (w : WebOk S T) (hT : T.length ≤ 300) {i : Nat} {t : Tie} {d : Int} (ht : T[i]? = some t) (hd : d = 0 ∨ d = 1) : F27.sem [o, .lst .z (qd T), .tup [.int i, .int d]] = .ok (.bl true) := by
  obtain ⟨p0, p1⟩ := place_ok w (1 - d) ht
  have e21 := fol21_call ht hd hT
  have e23 := fol_call h d ht hT p0 p1
  have e20 := head20_z ht hd
  have et := fun (j : Nat) (u : Tie) (c : Int) (hu : T[j]? = some u) => turns_call h d c ht hu
  revert e21 e23 e20 et
  generalize (tl t (1 - d)).1 = p
  generalize (tl t (1 - d)).2 = s
  intro e21 e23 e20 et
  have hl : (fol p s T).length ≤ 1000000 := by have := fol_len (p := p) (s := s) (T := T); omega
  have hs : (fol p s T).length < sizeLine := by show _ < 16777216; omega
  have e25 := fun f => steps_call (f := f) hl
  refine run_eq ?_
  show Wp (evSs T27 dr27.body [some o, some (.lst .z (qd T)), some (.tup [.int i, .int d]), none, none, none, none, none, none, none, none]) _
  unfold dr27
  have fm : ∀ (j : Nat) (u : Tie) (c : Int), T[j]? = some u → (c = 0 ∨ c = 1) → (tl u c).1 = p → decide (((j : Int), c) ∈ fol p s T) = !decide (s = (tl u c).2) := fun j u c hu hc hp => fol_mem hu hc hp
  revert e21 e23 hl hs e25 fm
  generalize fol p s T = A
  intro e21 e23 hl hs e25 fm
  refine step (by simp [evSs, evS, evE.eq_1, evE.eq_2, evE.eq_3, evE.eq_4, evE.eq_5, evE.eq_6, evE.eq_7, evE.eq_8, evE.eq_9, evE.eq_10, evE.eq_11, evE.eq_12, evE.eq_13, evE.eq_14, evE.eq_15, evE.eq_16, evE.eq_17, evE.eq_18, evE.eq_19, evE.eq_20, evE.eq_21, evE.eq_22, evE.eq_23, evE.eq_24, evE.eq_28, evE.eq_30, evE.eq_31, evE.eq_32, evE.eq_33, evE.eq_34, evE.eq_35, evE.eq_36, evE.eq_37, evE.eq_38, evE.eq_39, evE.eq_40, evE.eq_41, evEs, evP, evO, evTo, evT, evAnd, evOr, evTA, evTO, evIt, evB, wp_bind, wp_nx, wp_if, wp_ok, wp_st, ok_bind, ok_nx, ok_rt, EV.R.of_some, rof_if, nxQ_nx, nxQ_rt, wp_noEx, g_0, g_s, s_0, s_s, s_t2, bb, zz, tru_bl, noEx_j, isi_list, isi_int, isi_bool, q_ll, q_llb, lenOk_of, b_add, b_sub, b_mul, b_div, b_mod, b_pow, mulOk_r, mulOk_l, divOk_of, c_lt, c_le, c_gt, c_ge, c_eq, c_ne, c_in, c_ni, dIn_dic, x_lst, x_scr, x_dic, l_lst, l_scr, l_abs, l_int, l_list, l_tup, l_sorted, l_sortedk, i_int, q_lst, q_lstp, q_b, q_bp, q_tup, q_tupp, a_app, a_put, t_0, t_s, rng_of, li_zz, li_bb, li_clean, li_z, pr_zz, pr_bb, pr_clean, pr_z, ll_zz, ll_bb, ll_cleanO, ll_cleanZ, ll_z, clean, isZ, isZs, cleans, zzs, bbs, Fl.bb, dIn_li, dEq_li, dEq_pr, dEq_ll, dEq_int, taint, taints, li_taint, pr_taint, ll_taint, Fl.tt, li_len, pr_len, ll_len, EV.keyOf, List.map_cons, List.map_nil, List.length_cons, List.length_nil, List.set_cons_zero, List.set_cons_succ, Option.map_some, t27_21, qd_bb, e21] <;> rfl) ?_
  refine step (by simp [evSs, evS, evE.eq_1, evE.eq_2, evE.eq_3, evE.eq_4, evE.eq_5, evE.eq_6, evE.eq_7, evE.eq_8, evE.eq_9, evE.eq_10, evE.eq_11, evE.eq_12, evE.eq_13, evE.eq_14, evE.eq_15, evE.eq_16, evE.eq_17, evE.eq_18, evE.eq_19, evE.eq_20, evE.eq_21, evE.eq_22, evE.eq_23, evE.eq_24, evE.eq_28, evE.eq_30, evE.eq_31, evE.eq_32, evE.eq_33, evE.eq_34, evE.eq_35, evE.eq_36, evE.eq_37, evE.eq_38, evE.eq_39, evE.eq_40, evE.eq_41, evEs, evP, evO, evTo, evT, evAnd, evOr, evTA, evTO, evIt, evB, wp_bind, wp_nx, wp_if, wp_ok, wp_st, ok_bind, ok_nx, ok_rt, EV.R.of_some, rof_if, nxQ_nx, nxQ_rt, wp_noEx, g_0, g_s, s_0, s_s, s_t2, bb, zz, tru_bl, noEx_j, isi_list, isi_int, isi_bool, q_ll, q_llb, lenOk_of, b_add, b_sub, b_mul, b_div, b_mod, b_pow, mulOk_r, mulOk_l, divOk_of, c_lt, c_le, c_gt, c_ge, c_eq, c_ne, c_in, c_ni, dIn_dic, x_lst, x_scr, x_dic, l_lst, l_scr, l_abs, l_int, l_list, l_tup, l_sorted, l_sortedk, i_int, q_lst, q_lstp, q_b, q_bp, q_tup, q_tupp, a_app, a_put, t_0, t_s, rng_of, li_zz, li_bb, li_clean, li_z, pr_zz, pr_bb, pr_clean, pr_z, ll_zz, ll_bb, ll_cleanO, ll_cleanZ, ll_z, clean, isZ, isZs, cleans, zzs, bbs, Fl.bb, dIn_li, dEq_li, dEq_pr, dEq_ll, dEq_int, taint, taints, li_taint, pr_taint, ll_taint, Fl.tt, li_len, pr_len, ll_len, EV.keyOf, List.map_cons, List.map_nil, List.length_cons, List.length_nil, List.set_cons_zero, List.set_cons_succ, Option.map_some] <;> rfl) ?_
  refine step (by simp [evSs, evS, evE.eq_1, evE.eq_2, evE.eq_3, evE.eq_4, evE.eq_5, evE.eq_6, evE.eq_7, evE.eq_8, evE.eq_9, evE.eq_10, evE.eq_11, evE.eq_12, evE.eq_13, evE.eq_14, evE.eq_15, evE.eq_16, evE.eq_17, evE.eq_18, evE.eq_19, evE.eq_20, evE.eq_21, evE.eq_22, evE.eq_23, evE.eq_24, evE.eq_28, evE.eq_30, evE.eq_31, evE.eq_32, evE.eq_33, evE.eq_34, evE.eq_35, evE.eq_36, evE.eq_37, evE.eq_38, evE.eq_39, evE.eq_40, evE.eq_41, evEs, evP, evO, evTo, evT, evAnd, evOr, evTA, evTO, evIt, evB, wp_bind, wp_nx, wp_if, wp_ok, wp_st, ok_bind, ok_nx, ok_rt, EV.R.of_some, rof_if, nxQ_nx, nxQ_rt, wp_noEx, g_0, g_s, s_0, s_s, s_t2, bb, zz, tru_bl, noEx_j, isi_list, isi_int, isi_bool, q_ll, q_llb, lenOk_of, b_add, b_sub, b_mul, b_div, b_mod, b_pow, mulOk_r, mulOk_l, divOk_of, c_lt, c_le, c_gt, c_ge, c_eq, c_ne, c_in, c_ni, dIn_dic, x_lst, x_scr, x_dic, l_lst, l_scr, l_abs, l_int, l_list, l_tup, l_sorted, l_sortedk, i_int, q_lst, q_lstp, q_b, q_bp, q_tup, q_tupp, a_app, a_put, t_0, t_s, rng_of, li_zz, li_bb, li_clean, li_z, pr_zz, pr_bb, pr_clean, pr_z, ll_zz, ll_bb, ll_cleanO, ll_cleanZ, ll_z, clean, isZ, isZs, cleans, zzs, bbs, Fl.bb, dIn_li, dEq_li, dEq_pr, dEq_ll, dEq_int, taint, taints, li_taint, pr_taint, ll_taint, Fl.tt, li_len, pr_len, ll_len, EV.keyOf, List.map_cons, List.map_nil, List.length_cons, List.length_nil, List.set_cons_zero, List.set_cons_succ, Option.map_some, t27_23, h.bb, e23] <;> rfl) ?_
  refine step_no (by simp [evSs, evS, evE.eq_1, evE.eq_2, evE.eq_3, evE.eq_4, evE.eq_5, evE.eq_6, evE.eq_7, evE.eq_8, evE.eq_9, evE.eq_10, evE.eq_11, evE.eq_12, evE.eq_13, evE.eq_14, evE.eq_15, evE.eq_16, evE.eq_17, evE.eq_18, evE.eq_19, evE.eq_20, evE.eq_21, evE.eq_22, evE.eq_23, evE.eq_24, evE.eq_28, evE.eq_30, evE.eq_31, evE.eq_32, evE.eq_33, evE.eq_34, evE.eq_35, evE.eq_36, evE.eq_37, evE.eq_38, evE.eq_39, evE.eq_40, evE.eq_41, evEs, evP, evO, evTo, evT, evAnd, evOr, evTA, evTO, evIt, evB, wp_bind, wp_nx, wp_if, wp_ok, wp_st, ok_bind, ok_nx, ok_rt, EV.R.of_some, rof_if, nxQ_nx, nxQ_rt, wp_noEx, g_0, g_s, s_0, s_s, s_t2, bb, zz, tru_bl, noEx_j, isi_list, isi_int, isi_bool, q_ll, q_llb, lenOk_of, b_add, b_sub, b_mul, b_div, b_mod, b_pow, mulOk_r, mulOk_l, divOk_of, c_lt, c_le, c_gt, c_ge, c_eq, c_ne, c_in, c_ni, dIn_dic, x_lst, x_scr, x_dic, l_lst, l_scr, l_abs, l_int, l_list, l_tup, l_sorted, l_sortedk, i_int, q_lst, q_lstp, q_b, q_bp, q_tup, q_tupp, a_app, a_put, t_0, t_s, rng_of, li_zz, li_bb, li_clean, li_z, pr_zz, pr_bb, pr_clean, pr_z, ll_zz, ll_bb, ll_cleanO, ll_cleanZ, ll_z, clean, isZ, isZs, cleans, zzs, bbs, Fl.bb, dIn_li, dEq_li, dEq_pr, dEq_ll, dEq_int, taint, taints, li_taint, pr_taint, ll_taint, Fl.tt, li_len, pr_len, ll_len, EV.keyOf, List.map_cons, List.map_nil, List.length_cons, List.length_nil, List.set_cons_zero, List.set_cons_succ, Option.map_some, t27_25, e25]) ?_
  refine step (by simp [evSs, evS, evE.eq_1, evE.eq_2, evE.eq_3, evE.eq_4, evE.eq_5, evE.eq_6, evE.eq_7, evE.eq_8, evE.eq_9, evE.eq_10, evE.eq_11, evE.eq_12, evE.eq_13, evE.eq_14, evE.eq_15, evE.eq_16, evE.eq_17, evE.eq_18, evE.eq_19, evE.eq_20, evE.eq_21, evE.eq_22, evE.eq_23, evE.eq_24, evE.eq_28, evE.eq_30, evE.eq_31, evE.eq_32, evE.eq_33, evE.eq_34, evE.eq_35, evE.eq_36, evE.eq_37, evE.eq_38, evE.eq_39, evE.eq_40, evE.eq_41, evEs, evP, evO, evTo, evT, evAnd, evOr, evTA, evTO, evIt, evB, wp_bind, wp_nx, wp_if, wp_ok, wp_st, ok_bind, ok_nx, ok_rt, EV.R.of_some, rof_if, nxQ_nx, nxQ_rt, wp_noEx, g_0, g_s, s_0, s_s, s_t2, bb, zz, tru_bl, noEx_j, isi_list, isi_int, isi_bool, q_ll, q_llb, lenOk_of, b_add, b_sub, b_mul, b_div, b_mod, b_pow, mulOk_r, mulOk_l, divOk_of, c_lt, c_le, c_gt, c_ge, c_eq, c_ne, c_in, c_ni, dIn_dic, x_lst, x_scr, x_dic, l_lst, l_scr, l_abs, l_int, l_list, l_tup, l_sorted, l_sortedk, i_int, q_lst, q_lstp, q_b, q_bp, q_tup, q_tupp, a_app, a_put, t_0, t_s, rng_of, li_zz, li_bb, li_clean, li_z, pr_zz, pr_bb, pr_clean, pr_z, ll_zz, ll_bb, ll_cleanO, ll_cleanZ, ll_z, clean, isZ, isZs, cleans, zzs, bbs, Fl.bb, dIn_li, dEq_li, dEq_pr, dEq_ll, dEq_int, taint, taints, li_taint, pr_taint, ll_taint, Fl.tt, li_len, pr_len, ll_len, EV.keyOf, List.map_cons, List.map_nil, List.length_cons, List.length_nil, List.set_cons_zero, List.set_cons_succ, Option.map_some, hs] <;> rfl) ?_
  refine step (by simp [evSs, evS, evE.eq_1, evE.eq_2, evE.eq_3, evE.eq_4, evE.eq_5, evE.eq_6, evE.eq_7, evE.eq_8, evE.eq_9, evE.eq_10, evE.eq_11, evE.eq_12, evE.eq_13, evE.eq_14, evE.eq_15, evE.eq_16, evE.eq_17, evE.eq_18, evE.eq_19, evE.eq_20, evE.eq_21, evE.eq_22, evE.eq_23, evE.eq_24, evE.eq_28, evE.eq_30, evE.eq_31, evE.eq_32, evE.eq_33, evE.eq_34, evE.eq_35, evE.eq_36, evE.eq_37, evE.eq_38, evE.eq_39, evE.eq_40, evE.eq_41, evEs, evP, evO, evTo, evT, evAnd, evOr, evTA, evTO, evIt, evB, wp_bind, wp_nx, wp_if, wp_ok, wp_st, ok_bind, ok_nx, ok_rt, EV.R.of_some, rof_if, nxQ_nx, nxQ_rt, wp_noEx, g_0, g_s, s_0, s_s, s_t2, bb, zz, tru_bl, noEx_j, isi_list, isi_int, isi_bool, q_ll, q_llb, lenOk_of, b_add, b_sub, b_mul, b_div, b_mod, b_pow, mulOk_r, mulOk_l, divOk_of, c_lt, c_le, c_gt, c_ge, c_eq, c_ne, c_in, c_ni, dIn_dic, x_lst, x_scr, x_dic, l_lst, l_scr, l_abs, l_int, l_list, l_tup, l_sorted, l_sortedk, i_int, q_lst, q_lstp, q_b, q_bp, q_tup, q_tupp, a_app, a_put, t_0, t_s, rng_of, li_zz, li_bb, li_clean, li_z, pr_zz, pr_bb, pr_clean, pr_z, ll_zz, ll_bb, ll_cleanO, ll_cleanZ, ll_z, clean, isZ, isZs, cleans, zzs, bbs, Fl.bb, dIn_li, dEq_li, dEq_pr, dEq_ll, dEq_int, taint, taints, li_taint, pr_taint, ll_taint, Fl.tt, li_len, pr_len, ll_len, EV.keyOf, List.map_cons, List.map_nil, List.length_cons, List.length_nil, List.set_cons_zero, List.set_cons_succ, Option.map_some] <;> rfl) ?_
  refine step (by simp [evSs, evS, evE.eq_1, evE.eq_2, evE.eq_3, evE.eq_4, evE.eq_5, evE.eq_6, evE.eq_7, evE.eq_8, evE.eq_9, evE.eq_10, evE.eq_11, evE.eq_12, evE.eq_13, evE.eq_14, evE.eq_15, evE.eq_16, evE.eq_17, evE.eq_18, evE.eq_19, evE.eq_20, evE.eq_21, evE.eq_22, evE.eq_23, evE.eq_24, evE.eq_28, evE.eq_30, evE.eq_31, evE.eq_32, evE.eq_33, evE.eq_34, evE.eq_35, evE.eq_36, evE.eq_37, evE.eq_38, evE.eq_39, evE.eq_40, evE.eq_41, evEs, evP, evO, evTo, evT, evAnd, evOr, evTA, evTO, evIt, evB, wp_bind, wp_nx, wp_if, wp_ok, wp_st, ok_bind, ok_nx, ok_rt, EV.R.of_some, rof_if, nxQ_nx, nxQ_rt, wp_noEx, g_0, g_s, s_0, s_s, s_t2, bb, zz, tru_bl, noEx_j, isi_list, isi_int, isi_bool, q_ll, q_llb, lenOk_of, b_add, b_sub, b_mul, b_div, b_mod, b_pow, mulOk_r, mulOk_l, divOk_of, c_lt, c_le, c_gt, c_ge, c_eq, c_ne, c_in, c_ni, dIn_dic, x_lst, x_scr, x_dic, l_lst, l_scr, l_abs, l_int, l_list, l_tup, l_sorted, l_sortedk, i_int, q_lst, q_lstp, q_b, q_bp, q_tup, q_tupp, a_app, a_put, t_0, t_s, rng_of, li_zz, li_bb, li_clean, li_z, pr_zz, pr_bb, pr_clean, pr_z, ll_zz, ll_bb, ll_cleanO, ll_cleanZ, ll_z, clean, isZ, isZs, cleans, zzs, bbs, Fl.bb, dIn_li, dEq_li, dEq_pr, dEq_ll, dEq_int, taint, taints, li_taint, pr_taint, ll_taint, Fl.tt, li_len, pr_len, ll_len, EV.keyOf, List.map_cons, List.map_nil, List.length_cons, List.length_nil, List.set_cons_zero, List.set_cons_succ, Option.map_some, t27_20, qd_bb, e20] <;> rfl) ?_
  generalize hB : D.lst Fl.z (pr A ++ [D.tup [D.int 0, D.int 0]]) = B
  have hr : rngOk (T.length : Int) = true := rng_of (by omega) (by omega)
  have hr2 : rngOk 2 = true := rfl
  have gen : ∀ B : D, Wp (evSs T27 (.cons (.fr (.r1 (.blt .len (.slot 1))) (.name 7) (.cons (.fr (.r1 (.int 2)) (.name 8) (.cons (.asg (.name 9) (.tup (.cons (.slot 7) (.cons (.slot 8) .nil)))) (.cons (.ife (.b (.cmp .eq (.ix (.call 19 (.cons (.slot 1) (.cons (.slot 9) .nil))) (.int 0)) (.slot 5))) (.cons (.asg (.name 10) (.call 26 (.cons (.slot 0) (.cons (.slot 2) (.cons (.slot 9) .nil))))) (.cons (.frz 10) (.cons (.ife (.or (.cons (.not (.v (.isi "bool" (.slot 10)))) (.cons (.b (.cmp .ne (.slot 10) (.cmp .isin (.slot 9) (.slot 3)))) .nil))) (.cons (.ret (.bl false)) .nil) .nil) .nil))) .nil) .nil))) .nil)) (.cons (.ret (.bl true)) .nil)) [some o, some (.lst .z (qd T)), some (.tup [.int i, .int d]), some (.lst .z (pr A)), some B, some (.int p), some (.int s), none, none, none, none]) fun x => x = .rt (.bl true) := fun B => by
    refine ofor (ds := rangeD 0 T.length) (by simp [evSs, evS, evE.eq_1, evE.eq_2, evE.eq_3, evE.eq_4, evE.eq_5, evE.eq_6, evE.eq_7, evE.eq_8, evE.eq_9, evE.eq_10, evE.eq_11, evE.eq_12, evE.eq_13, evE.eq_14, evE.eq_15, evE.eq_16, evE.eq_17, evE.eq_18, evE.eq_19, evE.eq_20, evE.eq_21, evE.eq_22, evE.eq_23, evE.eq_24, evE.eq_28, evE.eq_30, evE.eq_31, evE.eq_32, evE.eq_33, evE.eq_34, evE.eq_35, evE.eq_36, evE.eq_37, evE.eq_38, evE.eq_39, evE.eq_40, evE.eq_41, evEs, evP, evO, evTo, evT, evAnd, evOr, evTA, evTO, evIt, evB, wp_bind, wp_nx, wp_if, wp_ok, wp_st, ok_bind, ok_nx, ok_rt, EV.R.of_some, rof_if, nxQ_nx, nxQ_rt, wp_noEx, g_0, g_s, s_0, s_s, s_t2, bb, zz, tru_bl, noEx_j, isi_list, isi_int, isi_bool, q_ll, q_llb, lenOk_of, b_add, b_sub, b_mul, b_div, b_mod, b_pow, mulOk_r, mulOk_l, divOk_of, c_lt, c_le, c_gt, c_ge, c_eq, c_ne, c_in, c_ni, dIn_dic, x_lst, x_scr, x_dic, l_lst, l_scr, l_abs, l_int, l_list, l_tup, l_sorted, l_sortedk, i_int, q_lst, q_lstp, q_b, q_bp, q_tup, q_tupp, a_app, a_put, t_0, t_s, rng_of, li_zz, li_bb, li_clean, li_z, pr_zz, pr_bb, pr_clean, pr_z, ll_zz, ll_bb, ll_cleanO, ll_cleanZ, ll_z, clean, isZ, isZs, cleans, zzs, bbs, Fl.bb, dIn_li, dEq_li, dEq_pr, dEq_ll, dEq_int, taint, taints, li_taint, pr_taint, ll_taint, Fl.tt, li_len, pr_len, ll_len, EV.keyOf, List.map_cons, List.map_nil, List.length_cons, List.length_nil, List.set_cons_zero, List.set_cons_succ, Option.map_some, qd_bb, qd_len, hr]) ?_
    refine wp_for (fun _ e => ∃ v7 v8 v9 v10 : Option D, e = [some o, some (.lst .z (qd T)), some (.tup [.int i, .int d]), some (.lst .z (pr A)), some B, some (.int p), some (.int s), v7, v8, v9, v10]) ⟨_, _, _, _, rfl⟩ ?_ ?_
    · rintro j x e hj ⟨v7, v8, v9, v10, rfl⟩
      obtain ⟨rfl, hj2⟩ := range_get hj
      have hu : T[j]? = some T[j] := List.getElem?_eq_getElem hj2
      refine wp_imp (r := (setTg (.name 7) _ _).bind _) (Q := fun x => ∃ v7 v8 v9 v10 : Option D, x = .nx [some o, some (.lst .z (qd T)), some (.tup [.int i, .int d]), some (.lst .z (pr A)), some B, some (.int p), some (.int s), v7, v8, v9, v10]) ?_ (fun x h => by obtain ⟨a, b, c, e, rfl⟩ := h; exact post_nx ⟨a, b, c, e, rfl⟩)
      refine otg (env' := [some o, some (.lst .z (qd T)), some (.tup [.int i, .int d]), some (.lst .z (pr A)), some B, some (.int p), some (.int s), some (.int j), v8, v9, v10]) (by simp [evSs, evS, evE.eq_1, evE.eq_2, evE.eq_3, evE.eq_4, evE.eq_5, evE.eq_6, evE.eq_7, evE.eq_8, evE.eq_9, evE.eq_10, evE.eq_11, evE.eq_12, evE.eq_13, evE.eq_14, evE.eq_15, evE.eq_16, evE.eq_17, evE.eq_18, evE.eq_19, evE.eq_20, evE.eq_21, evE.eq_22, evE.eq_23, evE.eq_24, evE.eq_28, evE.eq_30, evE.eq_31, evE.eq_32, evE.eq_33, evE.eq_34, evE.eq_35, evE.eq_36, evE.eq_37, evE.eq_38, evE.eq_39, evE.eq_40, evE.eq_41, evEs, evP, evO, evTo, evT, evAnd, evOr, evTA, evTO, evIt, evB, wp_bind, wp_nx, wp_if, wp_ok, wp_st, ok_bind, ok_nx, ok_rt, EV.R.of_some, rof_if, nxQ_nx, nxQ_rt, wp_noEx, g_0, g_s, s_0, s_s, s_t2, bb, zz, tru_bl, noEx_j, isi_list, isi_int, isi_bool, q_ll, q_llb, lenOk_of, b_add, b_sub, b_mul, b_div, b_mod, b_pow, mulOk_r, mulOk_l, divOk_of, c_lt, c_le, c_gt, c_ge, c_eq, c_ne, c_in, c_ni, dIn_dic, x_lst, x_scr, x_dic, l_lst, l_scr, l_abs, l_int, l_list, l_tup, l_sorted, l_sortedk, i_int, q_lst, q_lstp, q_b, q_bp, q_tup, q_tupp, a_app, a_put, t_0, t_s, rng_of, li_zz, li_bb, li_clean, li_z, pr_zz, pr_bb, pr_clean, pr_z, ll_zz, ll_bb, ll_cleanO, ll_cleanZ, ll_z, clean, isZ, isZs, cleans, zzs, bbs, Fl.bb, dIn_li, dEq_li, dEq_pr, dEq_ll, dEq_int, taint, taints, li_taint, pr_taint, ll_taint, Fl.tt, li_len, pr_len, ll_len, EV.keyOf, List.map_cons, List.map_nil, List.length_cons, List.length_nil, List.set_cons_zero, List.set_cons_succ, Option.map_some]) ?_
      refine ofor (ds := rangeD 0 2) (by simp [evSs, evS, evE.eq_1, evE.eq_2, evE.eq_3, evE.eq_4, evE.eq_5, evE.eq_6, evE.eq_7, evE.eq_8, evE.eq_9, evE.eq_10, evE.eq_11, evE.eq_12, evE.eq_13, evE.eq_14, evE.eq_15, evE.eq_16, evE.eq_17, evE.eq_18, evE.eq_19, evE.eq_20, evE.eq_21, evE.eq_22, evE.eq_23, evE.eq_24, evE.eq_28, evE.eq_30, evE.eq_31, evE.eq_32, evE.eq_33, evE.eq_34, evE.eq_35, evE.eq_36, evE.eq_37, evE.eq_38, evE.eq_39, evE.eq_40, evE.eq_41, evEs, evP, evO, evTo, evT, evAnd, evOr, evTA, evTO, evIt, evB, wp_bind, wp_nx, wp_if, wp_ok, wp_st, ok_bind, ok_nx, ok_rt, EV.R.of_some, rof_if, nxQ_nx, nxQ_rt, wp_noEx, g_0, g_s, s_0, s_s, s_t2, bb, zz, tru_bl, noEx_j, isi_list, isi_int, isi_bool, q_ll, q_llb, lenOk_of, b_add, b_sub, b_mul, b_div, b_mod, b_pow, mulOk_r, mulOk_l, divOk_of, c_lt, c_le, c_gt, c_ge, c_eq, c_ne, c_in, c_ni, dIn_dic, x_lst, x_scr, x_dic, l_lst, l_scr, l_abs, l_int, l_list, l_tup, l_sorted, l_sortedk, i_int, q_lst, q_lstp, q_b, q_bp, q_tup, q_tupp, a_app, a_put, t_0, t_s, rng_of, li_zz, li_bb, li_clean, li_z, pr_zz, pr_bb, pr_clean, pr_z, ll_zz, ll_bb, ll_cleanO, ll_cleanZ, ll_z, clean, isZ, isZs, cleans, zzs, bbs, Fl.bb, dIn_li, dEq_li, dEq_pr, dEq_ll, dEq_int, taint, taints, li_taint, pr_taint, ll_taint, Fl.tt, li_len, pr_len, ll_len, EV.keyOf, List.map_cons, List.map_nil, List.length_cons, List.length_nil, List.set_cons_zero, List.set_cons_succ, Option.map_some, hr2]) ?_
      refine wp_for (fun _ e => ∃ v8 v9 v10 : Option D, e = [some o, some (.lst .z (qd T)), some (.tup [.int i, .int d]), some (.lst .z (pr A)), some B, some (.int p), some (.int s), some (.int j), v8, v9, v10]) ⟨_, _, _, rfl⟩ ?_ ?_
      · rintro k y e hk ⟨v8, v9, v10, rfl⟩
        obtain ⟨rfl, hk2⟩ := range_get hk
        have hk3 : (k : Int) = 0 ∨ (k : Int) = 1 := by omega
        refine wp_imp (r := (setTg (.name 8) _ _).bind _) (Q := fun x => ∃ v8 v9 v10 : Option D, x = .nx [some o, some (.lst .z (qd T)), some (.tup [.int i, .int d]), some (.lst .z (pr A)), some B, some (.int p), some (.int s), some (.int j), v8, v9, v10]) ?_ (fun x h => by obtain ⟨b, c, e, rfl⟩ := h; exact post_nx ⟨b, c, e, rfl⟩)
        refine otg (env' := [some o, some (.lst .z (qd T)), some (.tup [.int i, .int d]), some (.lst .z (pr A)), some B, some (.int p), some (.int s), some (.int j), some (.int k), v9, v10]) (by simp [evSs, evS, evE.eq_1, evE.eq_2, evE.eq_3, evE.eq_4, evE.eq_5, evE.eq_6, evE.eq_7, evE.eq_8, evE.eq_9, evE.eq_10, evE.eq_11, evE.eq_12, evE.eq_13, evE.eq_14, evE.eq_15, evE.eq_16, evE.eq_17, evE.eq_18, evE.eq_19, evE.eq_20, evE.eq_21, evE.eq_22, evE.eq_23, evE.eq_24, evE.eq_28, evE.eq_30, evE.eq_31, evE.eq_32, evE.eq_33, evE.eq_34, evE.eq_35, evE.eq_36, evE.eq_37, evE.eq_38, evE.eq_39, evE.eq_40, evE.eq_41, evEs, evP, evO, evTo, evT, evAnd, evOr, evTA, evTO, evIt, evB, wp_bind, wp_nx, wp_if, wp_ok, wp_st, ok_bind, ok_nx, ok_rt, EV.R.of_some, rof_if, nxQ_nx, nxQ_rt, wp_noEx, g_0, g_s, s_0, s_s, s_t2, bb, zz, tru_bl, noEx_j, isi_list, isi_int, isi_bool, q_ll, q_llb, lenOk_of, b_add, b_sub, b_mul, b_div, b_mod, b_pow, mulOk_r, mulOk_l, divOk_of, c_lt, c_le, c_gt, c_ge, c_eq, c_ne, c_in, c_ni, dIn_dic, x_lst, x_scr, x_dic, l_lst, l_scr, l_abs, l_int, l_list, l_tup, l_sorted, l_sortedk, i_int, q_lst, q_lstp, q_b, q_bp, q_tup, q_tupp, a_app, a_put, t_0, t_s, rng_of, li_zz, li_bb, li_clean, li_z, pr_zz, pr_bb, pr_clean, pr_z, ll_zz, ll_bb, ll_cleanO, ll_cleanZ, ll_z, clean, isZ, isZs, cleans, zzs, bbs, Fl.bb, dIn_li, dEq_li, dEq_pr, dEq_ll, dEq_int, taint, taints, li_taint, pr_taint, ll_taint, Fl.tt, li_len, pr_len, ll_len, EV.keyOf, List.map_cons, List.map_nil, List.length_cons, List.length_nil, List.set_cons_zero, List.set_cons_succ, Option.map_some]) ?_
        refine step (env' := [some o, some (.lst .z (qd T)), some (.tup [.int i, .int d]), some (.lst .z (pr A)), some B, some (.int p), some (.int s), some (.int j), some (.int k), some (.tup [.int j, .int k]), v10]) (by simp [evSs, evS, evE.eq_1, evE.eq_2, evE.eq_3, evE.eq_4, evE.eq_5, evE.eq_6, evE.eq_7, evE.eq_8, evE.eq_9, evE.eq_10, evE.eq_11, evE.eq_12, evE.eq_13, evE.eq_14, evE.eq_15, evE.eq_16, evE.eq_17, evE.eq_18, evE.eq_19, evE.eq_20, evE.eq_21, evE.eq_22, evE.eq_23, evE.eq_24, evE.eq_28, evE.eq_30, evE.eq_31, evE.eq_32, evE.eq_33, evE.eq_34, evE.eq_35, evE.eq_36, evE.eq_37, evE.eq_38, evE.eq_39, evE.eq_40, evE.eq_41, evEs, evP, evO, evTo, evT, evAnd, evOr, evTA, evTO, evIt, evB, wp_bind, wp_nx, wp_if, wp_ok, wp_st, ok_bind, ok_nx, ok_rt, EV.R.of_some, rof_if, nxQ_nx, nxQ_rt, wp_noEx, g_0, g_s, s_0, s_s, s_t2, bb, zz, tru_bl, noEx_j, isi_list, isi_int, isi_bool, q_ll, q_llb, lenOk_of, b_add, b_sub, b_mul, b_div, b_mod, b_pow, mulOk_r, mulOk_l, divOk_of, c_lt, c_le, c_gt, c_ge, c_eq, c_ne, c_in, c_ni, dIn_dic, x_lst, x_scr, x_dic, l_lst, l_scr, l_abs, l_int, l_list, l_tup, l_sorted, l_sortedk, i_int, q_lst, q_lstp, q_b, q_bp, q_tup, q_tupp, a_app, a_put, t_0, t_s, rng_of, li_zz, li_bb, li_clean, li_z, pr_zz, pr_bb, pr_clean, pr_z, ll_zz, ll_bb, ll_cleanO, ll_cleanZ, ll_z, clean, isZ, isZs, cleans, zzs, bbs, Fl.bb, dIn_li, dEq_li, dEq_pr, dEq_ll, dEq_int, taint, taints, li_taint, pr_taint, ll_taint, Fl.tt, li_len, pr_len, ll_len, EV.keyOf, List.map_cons, List.map_nil, List.length_cons, List.length_nil, List.set_cons_zero, List.set_cons_succ, Option.map_some, lenOk_of]) ?_
        have h19 := tail19_z hu hk3
        by_cases hp : (tl T[j] (k : Int)).1 = p
        · refine step_yes (by simp [evSs, evS, evE.eq_1, evE.eq_2, evE.eq_3, evE.eq_4, evE.eq_5, evE.eq_6, evE.eq_7, evE.eq_8, evE.eq_9, evE.eq_10, evE.eq_11, evE.eq_12, evE.eq_13, evE.eq_14, evE.eq_15, evE.eq_16, evE.eq_17, evE.eq_18, evE.eq_19, evE.eq_20, evE.eq_21, evE.eq_22, evE.eq_23, evE.eq_24, evE.eq_28, evE.eq_30, evE.eq_31, evE.eq_32, evE.eq_33, evE.eq_34, evE.eq_35, evE.eq_36, evE.eq_37, evE.eq_38, evE.eq_39, evE.eq_40, evE.eq_41, evEs, evP, evO, evTo, evT, evAnd, evOr, evTA, evTO, evIt, evB, wp_bind, wp_nx, wp_if, wp_ok, wp_st, ok_bind, ok_nx, ok_rt, EV.R.of_some, rof_if, nxQ_nx, nxQ_rt, wp_noEx, g_0, g_s, s_0, s_s, s_t2, bb, zz, tru_bl, noEx_j, isi_list, isi_int, isi_bool, q_ll, q_llb, lenOk_of, b_add, b_sub, b_mul, b_div, b_mod, b_pow, mulOk_r, mulOk_l, divOk_of, c_lt, c_le, c_gt, c_ge, c_eq, c_ne, c_in, c_ni, dIn_dic, x_lst, x_scr, x_dic, l_lst, l_scr, l_abs, l_int, l_list, l_tup, l_sorted, l_sortedk, i_int, q_lst, q_lstp, q_b, q_bp, q_tup, q_tupp, a_app, a_put, t_0, t_s, rng_of, li_zz, li_bb, li_clean, li_z, pr_zz, pr_bb, pr_clean, pr_z, ll_zz, ll_bb, ll_cleanO, ll_cleanZ, ll_z, clean, isZ, isZs, cleans, zzs, bbs, Fl.bb, dIn_li, dEq_li, dEq_pr, dEq_ll, dEq_int, taint, taints, li_taint, pr_taint, ll_taint, Fl.tt, li_len, pr_len, ll_len, EV.keyOf, List.map_cons, List.map_nil, List.length_cons, List.length_nil, List.set_cons_zero, List.set_cons_succ, Option.map_some, t27_19, qd_bb, h19, x_tup, x_p0, hp]) ?_
          have fm2 := fm j T[j] (k : Int) hu hk3 hp
          refine step (env' := [some o, some (.lst .z (qd T)), some (.tup [.int i, .int d]), some (.lst .z (pr A)), some B, some (.int p), some (.int s), some (.int j), some (.int k), some (.tup [.int j, .int k]), some (.bl (!decide (s = (tl T[j] (k : Int)).2)))]) (by simp [evSs, evS, evE.eq_1, evE.eq_2, evE.eq_3, evE.eq_4, evE.eq_5, evE.eq_6, evE.eq_7, evE.eq_8, evE.eq_9, evE.eq_10, evE.eq_11, evE.eq_12, evE.eq_13, evE.eq_14, evE.eq_15, evE.eq_16, evE.eq_17, evE.eq_18, evE.eq_19, evE.eq_20, evE.eq_21, evE.eq_22, evE.eq_23, evE.eq_24, evE.eq_28, evE.eq_30, evE.eq_31, evE.eq_32, evE.eq_33, evE.eq_34, evE.eq_35, evE.eq_36, evE.eq_37, evE.eq_38, evE.eq_39, evE.eq_40, evE.eq_41, evEs, evP, evO, evTo, evT, evAnd, evOr, evTA, evTO, evIt, evB, wp_bind, wp_nx, wp_if, wp_ok, wp_st, ok_bind, ok_nx, ok_rt, EV.R.of_some, rof_if, nxQ_nx, nxQ_rt, wp_noEx, g_0, g_s, s_0, s_s, s_t2, bb, zz, tru_bl, noEx_j, isi_list, isi_int, isi_bool, q_ll, q_llb, lenOk_of, b_add, b_sub, b_mul, b_div, b_mod, b_pow, mulOk_r, mulOk_l, divOk_of, c_lt, c_le, c_gt, c_ge, c_eq, c_ne, c_in, c_ni, dIn_dic, x_lst, x_scr, x_dic, l_lst, l_scr, l_abs, l_int, l_list, l_tup, l_sorted, l_sortedk, i_int, q_lst, q_lstp, q_b, q_bp, q_tup, q_tupp, a_app, a_put, t_0, t_s, rng_of, li_zz, li_bb, li_clean, li_z, pr_zz, pr_bb, pr_clean, pr_z, ll_zz, ll_bb, ll_cleanO, ll_cleanZ, ll_z, clean, isZ, isZs, cleans, zzs, bbs, Fl.bb, dIn_li, dEq_li, dEq_pr, dEq_ll, dEq_int, taint, taints, li_taint, pr_taint, ll_taint, Fl.tt, li_len, pr_len, ll_len, EV.keyOf, List.map_cons, List.map_nil, List.length_cons, List.length_nil, List.set_cons_zero, List.set_cons_succ, Option.map_some, t27_26, h.bb, et j T[j] (k : Int) hu]) ?_
          refine step (by simp [evSs, evS, evE.eq_1, evE.eq_2, evE.eq_3, evE.eq_4, evE.eq_5, evE.eq_6, evE.eq_7, evE.eq_8, evE.eq_9, evE.eq_10, evE.eq_11, evE.eq_12, evE.eq_13, evE.eq_14, evE.eq_15, evE.eq_16, evE.eq_17, evE.eq_18, evE.eq_19, evE.eq_20, evE.eq_21, evE.eq_22, evE.eq_23, evE.eq_24, evE.eq_28, evE.eq_30, evE.eq_31, evE.eq_32, evE.eq_33, evE.eq_34, evE.eq_35, evE.eq_36, evE.eq_37, evE.eq_38, evE.eq_39, evE.eq_40, evE.eq_41, evEs, evP, evO, evTo, evT, evAnd, evOr, evTA, evTO, evIt, evB, wp_bind, wp_nx, wp_if, wp_ok, wp_st, ok_bind, ok_nx, ok_rt, EV.R.of_some, rof_if, nxQ_nx, nxQ_rt, wp_noEx, g_0, g_s, s_0, s_s, s_t2, bb, zz, tru_bl, noEx_j, isi_list, isi_int, isi_bool, q_ll, q_llb, lenOk_of, b_add, b_sub, b_mul, b_div, b_mod, b_pow, mulOk_r, mulOk_l, divOk_of, c_lt, c_le, c_gt, c_ge, c_eq, c_ne, c_in, c_ni, dIn_dic, x_lst, x_scr, x_dic, l_lst, l_scr, l_abs, l_int, l_list, l_tup, l_sorted, l_sortedk, i_int, q_lst, q_lstp, q_b, q_bp, q_tup, q_tupp, a_app, a_put, t_0, t_s, rng_of, li_zz, li_bb, li_clean, li_z, pr_zz, pr_bb, pr_clean, pr_z, ll_zz, ll_bb, ll_cleanO, ll_cleanZ, ll_z, clean, isZ, isZs, cleans, zzs, bbs, Fl.bb, dIn_li, dEq_li, dEq_pr, dEq_ll, dEq_int, taint, taints, li_taint, pr_taint, ll_taint, Fl.tt, li_len, pr_len, ll_len, EV.keyOf, List.map_cons, List.map_nil, List.length_cons, List.length_nil, List.set_cons_zero, List.set_cons_succ, Option.map_some] <;> rfl) ?_
          refine step_no ?_ ⟨_, rfl, _, rfl, _, _, _, rfl⟩
          have h1 : evT T27 (.not (.v (.isi "bool" (.slot 10)))) [some o, some (.lst .z (qd T)), some (.tup [.int i, .int d]), some (.lst .z (pr A)), some B, some (.int p), some (.int s), some (.int j), some (.int k), some (.tup [.int j, .int k]), some (.bl (!decide (s = (tl T[j] (k : Int)).2)))] = .ok false := by simp [evSs, evS, evE.eq_1, evE.eq_2, evE.eq_3, evE.eq_4, evE.eq_5, evE.eq_6, evE.eq_7, evE.eq_8, evE.eq_9, evE.eq_10, evE.eq_11, evE.eq_12, evE.eq_13, evE.eq_14, evE.eq_15, evE.eq_16, evE.eq_17, evE.eq_18, evE.eq_19, evE.eq_20, evE.eq_21, evE.eq_22, evE.eq_23, evE.eq_24, evE.eq_28, evE.eq_30, evE.eq_31, evE.eq_32, evE.eq_33, evE.eq_34, evE.eq_35, evE.eq_36, evE.eq_37, evE.eq_38, evE.eq_39, evE.eq_40, evE.eq_41, evEs, evP, evO, evTo, evT, evAnd, evOr, evTA, evTO, evIt, evB, wp_bind, wp_nx, wp_if, wp_ok, wp_st, ok_bind, ok_nx, ok_rt, EV.R.of_some, rof_if, nxQ_nx, nxQ_rt, wp_noEx, g_0, g_s, s_0, s_s, s_t2, bb, zz, tru_bl, noEx_j, isi_list, isi_int, isi_bool, q_ll, q_llb, lenOk_of, b_add, b_sub, b_mul, b_div, b_mod, b_pow, mulOk_r, mulOk_l, divOk_of, c_lt, c_le, c_gt, c_ge, c_eq, c_ne, c_in, c_ni, dIn_dic, x_lst, x_scr, x_dic, l_lst, l_scr, l_abs, l_int, l_list, l_tup, l_sorted, l_sortedk, i_int, q_lst, q_lstp, q_b, q_bp, q_tup, q_tupp, a_app, a_put, t_0, t_s, rng_of, li_zz, li_bb, li_clean, li_z, pr_zz, pr_bb, pr_clean, pr_z, ll_zz, ll_bb, ll_cleanO, ll_cleanZ, ll_z, clean, isZ, isZs, cleans, zzs, bbs, Fl.bb, dIn_li, dEq_li, dEq_pr, dEq_ll, dEq_int, taint, taints, li_taint, pr_taint, ll_taint, Fl.tt, li_len, pr_len, ll_len, EV.keyOf, List.map_cons, List.map_nil, List.length_cons, List.length_nil, List.set_cons_zero, List.set_cons_succ, Option.map_some, isi_boolb]
          have h2 : evT T27 (.b (.cmp .ne (.slot 10) (.cmp .isin (.slot 9) (.slot 3)))) [some o, some (.lst .z (qd T)), some (.tup [.int i, .int d]), some (.lst .z (pr A)), some B, some (.int p), some (.int s), some (.int j), some (.int k), some (.tup [.int j, .int k]), some (.bl (!decide (s = (tl T[j] (k : Int)).2)))] = .ok false := by simp only [evSs, evS, evE.eq_1, evE.eq_2, evE.eq_3, evE.eq_4, evE.eq_5, evE.eq_6, evE.eq_7, evE.eq_8, evE.eq_9, evE.eq_10, evE.eq_11, evE.eq_12, evE.eq_13, evE.eq_14, evE.eq_15, evE.eq_16, evE.eq_17, evE.eq_18, evE.eq_19, evE.eq_20, evE.eq_21, evE.eq_22, evE.eq_23, evE.eq_24, evE.eq_28, evE.eq_30, evE.eq_31, evE.eq_32, evE.eq_33, evE.eq_34, evE.eq_35, evE.eq_36, evE.eq_37, evE.eq_38, evE.eq_39, evE.eq_40, evE.eq_41, evEs, evP, evO, evTo, evT, evAnd, evOr, evTA, evTO, evIt, evB, wp_bind, wp_nx, wp_if, wp_ok, wp_st, ok_bind, ok_nx, ok_rt, EV.R.of_some, rof_if, nxQ_nx, nxQ_rt, wp_noEx, g_0, g_s, s_0, s_s, s_t2, bb, zz, tru_bl, noEx_j, isi_list, isi_int, isi_bool, q_ll, q_llb, lenOk_of, b_add, b_sub, b_mul, b_div, b_mod, b_pow, mulOk_r, mulOk_l, divOk_of, c_lt, c_le, c_gt, c_ge, c_eq, c_ne, c_in, c_ni, dIn_dic, x_lst, x_scr, x_dic, l_lst, l_scr, l_abs, l_int, l_list, l_tup, l_sorted, l_sortedk, i_int, q_lst, q_lstp, q_b, q_bp, q_tup, q_tupp, a_app, a_put, t_0, t_s, rng_of, li_zz, li_bb, li_clean, li_z, pr_zz, pr_bb, pr_clean, pr_z, ll_zz, ll_bb, ll_cleanO, ll_cleanZ, ll_z, clean, isZ, isZs, cleans, zzs, bbs, Fl.bb, dIn_li, dEq_li, dEq_pr, dEq_ll, dEq_int, taint, taints, li_taint, pr_taint, ll_taint, Fl.tt, li_len, pr_len, ll_len, EV.keyOf, List.map_cons, List.map_nil, List.length_cons, List.length_nil, List.set_cons_zero, List.set_cons_succ, Option.map_some, dIn_pr, fm2, dEq_bl, Bool.not_true, beq_self_eq_true]
          simp [evT.eq_5, evTO, h1, h2, ok_bind]
        · refine step_no (by simp [evSs, evS, evE.eq_1, evE.eq_2, evE.eq_3, evE.eq_4, evE.eq_5, evE.eq_6, evE.eq_7, evE.eq_8, evE.eq_9, evE.eq_10, evE.eq_11, evE.eq_12, evE.eq_13, evE.eq_14, evE.eq_15, evE.eq_16, evE.eq_17, evE.eq_18, evE.eq_19, evE.eq_20, evE.eq_21, evE.eq_22, evE.eq_23, evE.eq_24, evE.eq_28, evE.eq_30, evE.eq_31, evE.eq_32, evE.eq_33, evE.eq_34, evE.eq_35, evE.eq_36, evE.eq_37, evE.eq_38, evE.eq_39, evE.eq_40, evE.eq_41, evEs, evP, evO, evTo, evT, evAnd, evOr, evTA, evTO, evIt, evB, wp_bind, wp_nx, wp_if, wp_ok, wp_st, ok_bind, ok_nx, ok_rt, EV.R.of_some, rof_if, nxQ_nx, nxQ_rt, wp_noEx, g_0, g_s, s_0, s_s, s_t2, bb, zz, tru_bl, noEx_j, isi_list, isi_int, isi_bool, q_ll, q_llb, lenOk_of, b_add, b_sub, b_mul, b_div, b_mod, b_pow, mulOk_r, mulOk_l, divOk_of, c_lt, c_le, c_gt, c_ge, c_eq, c_ne, c_in, c_ni, dIn_dic, x_lst, x_scr, x_dic, l_lst, l_scr, l_abs, l_int, l_list, l_tup, l_sorted, l_sortedk, i_int, q_lst, q_lstp, q_b, q_bp, q_tup, q_tupp, a_app, a_put, t_0, t_s, rng_of, li_zz, li_bb, li_clean, li_z, pr_zz, pr_bb, pr_clean, pr_z, ll_zz, ll_bb, ll_cleanO, ll_cleanZ, ll_z, clean, isZ, isZs, cleans, zzs, bbs, Fl.bb, dIn_li, dEq_li, dEq_pr, dEq_ll, dEq_int, taint, taints, li_taint, pr_taint, ll_taint, Fl.tt, li_len, pr_len, ll_len, EV.keyOf, List.map_cons, List.map_nil, List.length_cons, List.length_nil, List.set_cons_zero, List.set_cons_succ, Option.map_some, t27_19, qd_bb, h19, x_tup, x_p0, hp]) ?_
          exact ⟨_, rfl, _, _, _, rfl⟩
      · rintro e ⟨v8, v9, v10, rfl⟩
        exact ⟨_, rfl, _, _, _, _, rfl⟩
    · rintro e ⟨v7, v8, v9, v10, rfl⟩
      rw [nxQ_nx]
      exact step_ret (d := .bl true) (by simp [evSs, evS, evE.eq_1, evE.eq_2, evE.eq_3, evE.eq_4, evE.eq_5, evE.eq_6, evE.eq_7, evE.eq_8, evE.eq_9, evE.eq_10, evE.eq_11, evE.eq_12, evE.eq_13, evE.eq_14, evE.eq_15, evE.eq_16, evE.eq_17, evE.eq_18, evE.eq_19, evE.eq_20, evE.eq_21, evE.eq_22, evE.eq_23, evE.eq_24, evE.eq_28, evE.eq_30, evE.eq_31, evE.eq_32, evE.eq_33, evE.eq_34, evE.eq_35, evE.eq_36, evE.eq_37, evE.eq_38, evE.eq_39, evE.eq_40, evE.eq_41, evEs, evP, evO, evTo, evT, evAnd, evOr, evTA, evTO, evIt, evB, wp_bind, wp_nx, wp_if, wp_ok, wp_st, ok_bind, ok_nx, ok_rt, EV.R.of_some, rof_if, nxQ_nx, nxQ_rt, wp_noEx, g_0, g_s, s_0, s_s, s_t2, bb, zz, tru_bl, noEx_j, isi_list, isi_int, isi_bool, q_ll, q_llb, lenOk_of, b_add, b_sub, b_mul, b_div, b_mod, b_pow, mulOk_r, mulOk_l, divOk_of, c_lt, c_le, c_gt, c_ge, c_eq, c_ne, c_in, c_ni, dIn_dic, x_lst, x_scr, x_dic, l_lst, l_scr, l_abs, l_int, l_list, l_tup, l_sorted, l_sortedk, i_int, q_lst, q_lstp, q_b, q_bp, q_tup, q_tupp, a_app, a_put, t_0, t_s, rng_of, li_zz, li_bb, li_clean, li_z, pr_zz, pr_bb, pr_clean, pr_z, ll_zz, ll_bb, ll_cleanO, ll_cleanZ, ll_z, clean, isZ, isZs, cleans, zzs, bbs, Fl.bb, dIn_li, dEq_li, dEq_pr, dEq_ll, dEq_int, taint, taints, li_taint, pr_taint, ll_taint, Fl.tt, li_len, pr_len, ll_len, EV.keyOf, List.map_cons, List.map_nil, List.length_cons, List.length_nil, List.set_cons_zero, List.set_cons_succ, Option.map_some]) rfl
  exact gen _
theorem right_call {o : D} {S : List Int} {T : List Tie} (h : Ob o S T) (w : WebOk S T) (hT : T.length ≤ 300) {i : Nat} {t : Tie} {d : Int} (ht : T[i]? = some t) (hd : d = 0 ∨ d = 1) : callD F27 [o, .lst .z (qd T), .tup [.int i, .int d]] = .ok (.bl true) :=
  callD_v rfl (by simp only [zzs, zz, h.zz, qd_zz]; exact step_right h w hT ht hd) (.inr bl_back)
theorem xo {x : Exc} : xcpO (some x) .xcp = .ok x := rfl
theorem ht1 {x : Exc} : (T28.ht x).ξ = some x := rfl
theorem ht2 {x : Exc} : (T28.ht x).xsub = T28.xsub := rfl
theorem u1 : T28.xsub "UnknownTie" "ComesapartError" = some true := by decide +kernel
theorem u2 : T28.xsub "UnknownTie" "UnknownTie" = some true := by decide +kernel
theorem u3 : T28.xsub "UnknownTie" "ValueError" = some true := by decide +kernel
theorem m1 : memK ("__class__" : Str) ["tie"] = false := by decide +kernel
theorem refused_ok {o : D} {S : List Int} {T : List Tie} (h : Ob o S T) (hx : noX o = true) {i : Int} (d : Int) (hi : i < 0 ∨ (T.length : Int) ≤ i) (h1 : -(10 ^ 30) ≤ i) (h2 : i ≤ 10 ^ 30) : F28.sem [o, .tup [.int i, .int d]] = .ok (.bl true) := by
  have e := fol_bad h d hi h1 h2
  unfold xT at e
  refine wp_eq ?_
  simp [F28, runF, dr28, evSs, evS, evE, evEs, evP, evO, evTo, evT, evAnd, evOr, evTA, evTO, evIt, evB, wp_bind, wp_nx, wp_if, wp_ok, wp_st, ok_bind, ok_nx, ok_rt, EV.R.of_some, rof_if, nxQ_nx, nxQ_rt, wp_noEx, g_0, g_s, s_0, s_s, s_t2, bb, zz, tru_bl, noEx_j, isi_list, isi_int, isi_bool, q_ll, q_llb, lenOk_of, b_add, b_sub, b_mul, b_div, b_mod, b_pow, mulOk_r, mulOk_l, divOk_of, c_lt, c_le, c_gt, c_ge, c_eq, c_ne, c_in, c_ni, dIn_dic, x_lst, x_scr, x_dic, l_lst, l_scr, l_abs, l_int, l_list, l_tup, l_sorted, l_sortedk, i_int, q_lst, q_lstp, q_b, q_bp, q_tup, q_tupp, a_app, a_put, t_0, t_s, rng_of, li_zz, li_bb, li_clean, li_z, pr_zz, pr_bb, pr_clean, pr_z, ll_zz, ll_bb, ll_cleanO, ll_cleanZ, ll_z, clean, isZ, isZs, cleans, zzs, bbs, Fl.bb, dIn_li, dEq_li, dEq_pr, dEq_ll, dEq_int, taint, taints, li_taint, pr_taint, ll_taint, Fl.tt, li_len, pr_len, ll_len, EV.keyOf, List.map_cons, List.map_nil, List.length_cons, List.length_nil, List.set_cons_zero, List.set_cons_succ, Option.map_some, t28_23, h.bb, e, ex_bind, u1, ht1, ht2, xo, u2, u3, m1, lookK, noXE, noX, hx, outX, noXs, x_tup, x_p0]
theorem refused_call {o : D} {S : List Int} {T : List Tie} (h : Ob o S T) (hx : noX o = true) {i : Int} (d : Int) (hi : i < 0 ∨ (T.length : Int) ≤ i) (h1 : -(10 ^ 30) ≤ i) (h2 : i ≤ 10 ^ 30) : callD F28 [o, .tup [.int i, .int d]] = .ok (.bl true) :=
  callD_v rfl (by simp only [zzs, zz, h.zz]; exact refused_ok h hx d hi h1 h2) (.inr bl_back)
theorem web_right {o : D} {S : List Int} {T : List Tie} (h : Ob o S T) (hx : noX o = true) (w : WebOk S T) (hT : T.length ≤ 300) : F29.sem [o, .lst .z (li S), .lst .z (qd T)] = .ok (.bl true) := by
  have hr : rngOk (T.length : Int) = true := rng_of (by omega) (by omega)
  have hr2 : rngOk 2 = true := rfl
  refine run_eq ?_
  show Wp (evSs T29 dr29.body [some o, some (.lst .z (li S)), some (.lst .z (qd T)), none, none]) _
  unfold dr29
  refine ofor (ds := rangeD 0 T.length) (by simp [evSs, evS, evE.eq_1, evE.eq_2, evE.eq_3, evE.eq_4, evE.eq_5, evE.eq_6, evE.eq_7, evE.eq_8, evE.eq_9, evE.eq_10, evE.eq_11, evE.eq_12, evE.eq_13, evE.eq_14, evE.eq_15, evE.eq_16, evE.eq_17, evE.eq_18, evE.eq_19, evE.eq_20, evE.eq_21, evE.eq_22, evE.eq_23, evE.eq_24, evE.eq_28, evE.eq_30, evE.eq_31, evE.eq_32, evE.eq_33, evE.eq_34, evE.eq_35, evE.eq_36, evE.eq_37, evE.eq_38, evE.eq_39, evE.eq_40, evE.eq_41, evEs, evP, evO, evTo, evT, evAnd, evOr, evTA, evTO, evIt, evB, wp_bind, wp_nx, wp_if, wp_ok, wp_st, ok_bind, ok_nx, ok_rt, EV.R.of_some, rof_if, nxQ_nx, nxQ_rt, wp_noEx, g_0, g_s, s_0, s_s, s_t2, bb, zz, tru_bl, noEx_j, isi_list, isi_int, isi_bool, q_ll, q_llb, lenOk_of, b_add, b_sub, b_mul, b_div, b_mod, b_pow, mulOk_r, mulOk_l, divOk_of, c_lt, c_le, c_gt, c_ge, c_eq, c_ne, c_in, c_ni, dIn_dic, x_lst, x_scr, x_dic, l_lst, l_scr, l_abs, l_int, l_list, l_tup, l_sorted, l_sortedk, i_int, q_lst, q_lstp, q_b, q_bp, q_tup, q_tupp, a_app, a_put, t_0, t_s, rng_of, li_zz, li_bb, li_clean, li_z, pr_zz, pr_bb, pr_clean, pr_z, ll_zz, ll_bb, ll_cleanO, ll_cleanZ, ll_z, clean, isZ, isZs, cleans, zzs, bbs, Fl.bb, dIn_li, dEq_li, dEq_pr, dEq_ll, dEq_int, taint, taints, li_taint, pr_taint, ll_taint, Fl.tt, li_len, pr_len, ll_len, EV.keyOf, List.map_cons, List.map_nil, List.length_cons, List.length_nil, List.set_cons_zero, List.set_cons_succ, Option.map_some, qd_bb, qd_len, hr]) ?_
  refine wp_for (fun _ e => ∃ v3 v4 : Option D, e = [some o, some (.lst .z (li S)), some (.lst .z (qd T)), v3, v4]) ⟨_, _, rfl⟩ ?_ ?_
  · rintro j x e hj ⟨v3, v4, rfl⟩
    obtain ⟨rfl, hj2⟩ := range_get hj
    have hu : T[j]? = some T[j] := List.getElem?_eq_getElem hj2
    refine wp_imp (r := (setTg (.name 3) _ _).bind _) (Q := fun x => ∃ v3 v4 : Option D, x = .nx [some o, some (.lst .z (li S)), some (.lst .z (qd T)), v3, v4]) ?_ (fun x h => by obtain ⟨a, b, rfl⟩ := h; exact post_nx ⟨a, b, rfl⟩)
    refine otg (env' := [some o, some (.lst .z (li S)), some (.lst .z (qd T)), some (.int j), v4]) (by simp [evSs, evS, evE.eq_1, evE.eq_2, evE.eq_3, evE.eq_4, evE.eq_5, evE.eq_6, evE.eq_7, evE.eq_8, evE.eq_9, evE.eq_10, evE.eq_11, evE.eq_12, evE.eq_13, evE.eq_14, evE.eq_15, evE.eq_16, evE.eq_17, evE.eq_18, evE.eq_19, evE.eq_20, evE.eq_21, evE.eq_22, evE.eq_23, evE.eq_24, evE.eq_28, evE.eq_30, evE.eq_31, evE.eq_32, evE.eq_33, evE.eq_34, evE.eq_35, evE.eq_36, evE.eq_37, evE.eq_38, evE.eq_39, evE.eq_40, evE.eq_41, evEs, evP, evO, evTo, evT, evAnd, evOr, evTA, evTO, evIt, evB, wp_bind, wp_nx, wp_if, wp_ok, wp_st, ok_bind, ok_nx, ok_rt, EV.R.of_some, rof_if, nxQ_nx, nxQ_rt, wp_noEx, g_0, g_s, s_0, s_s, s_t2, bb, zz, tru_bl, noEx_j, isi_list, isi_int, isi_bool, q_ll, q_llb, lenOk_of, b_add, b_sub, b_mul, b_div, b_mod, b_pow, mulOk_r, mulOk_l, divOk_of, c_lt, c_le, c_gt, c_ge, c_eq, c_ne, c_in, c_ni, dIn_dic, x_lst, x_scr, x_dic, l_lst, l_scr, l_abs, l_int, l_list, l_tup, l_sorted, l_sortedk, i_int, q_lst, q_lstp, q_b, q_bp, q_tup, q_tupp, a_app, a_put, t_0, t_s, rng_of, li_zz, li_bb, li_clean, li_z, pr_zz, pr_bb, pr_clean, pr_z, ll_zz, ll_bb, ll_cleanO, ll_cleanZ, ll_z, clean, isZ, isZs, cleans, zzs, bbs, Fl.bb, dIn_li, dEq_li, dEq_pr, dEq_ll, dEq_int, taint, taints, li_taint, pr_taint, ll_taint, Fl.tt, li_len, pr_len, ll_len, EV.keyOf, List.map_cons, List.map_nil, List.length_cons, List.length_nil, List.set_cons_zero, List.set_cons_succ, Option.map_some]) ?_
    refine ofor (ds := rangeD 0 2) (by simp [evSs, evS, evE.eq_1, evE.eq_2, evE.eq_3, evE.eq_4, evE.eq_5, evE.eq_6, evE.eq_7, evE.eq_8, evE.eq_9, evE.eq_10, evE.eq_11, evE.eq_12, evE.eq_13, evE.eq_14, evE.eq_15, evE.eq_16, evE.eq_17, evE.eq_18, evE.eq_19, evE.eq_20, evE.eq_21, evE.eq_22, evE.eq_23, evE.eq_24, evE.eq_28, evE.eq_30, evE.eq_31, evE.eq_32, evE.eq_33, evE.eq_34, evE.eq_35, evE.eq_36, evE.eq_37, evE.eq_38, evE.eq_39, evE.eq_40, evE.eq_41, evEs, evP, evO, evTo, evT, evAnd, evOr, evTA, evTO, evIt, evB, wp_bind, wp_nx, wp_if, wp_ok, wp_st, ok_bind, ok_nx, ok_rt, EV.R.of_some, rof_if, nxQ_nx, nxQ_rt, wp_noEx, g_0, g_s, s_0, s_s, s_t2, bb, zz, tru_bl, noEx_j, isi_list, isi_int, isi_bool, q_ll, q_llb, lenOk_of, b_add, b_sub, b_mul, b_div, b_mod, b_pow, mulOk_r, mulOk_l, divOk_of, c_lt, c_le, c_gt, c_ge, c_eq, c_ne, c_in, c_ni, dIn_dic, x_lst, x_scr, x_dic, l_lst, l_scr, l_abs, l_int, l_list, l_tup, l_sorted, l_sortedk, i_int, q_lst, q_lstp, q_b, q_bp, q_tup, q_tupp, a_app, a_put, t_0, t_s, rng_of, li_zz, li_bb, li_clean, li_z, pr_zz, pr_bb, pr_clean, pr_z, ll_zz, ll_bb, ll_cleanO, ll_cleanZ, ll_z, clean, isZ, isZs, cleans, zzs, bbs, Fl.bb, dIn_li, dEq_li, dEq_pr, dEq_ll, dEq_int, taint, taints, li_taint, pr_taint, ll_taint, Fl.tt, li_len, pr_len, ll_len, EV.keyOf, List.map_cons, List.map_nil, List.length_cons, List.length_nil, List.set_cons_zero, List.set_cons_succ, Option.map_some, hr2]) ?_
    refine wp_for (fun _ e => ∃ v4 : Option D, e = [some o, some (.lst .z (li S)), some (.lst .z (qd T)), some (.int j), v4]) ⟨_, rfl⟩ ?_ ?_
    · rintro k y e hk ⟨v4, rfl⟩
      obtain ⟨rfl, hk2⟩ := range_get hk
      have hk3 : (k : Int) = 0 ∨ (k : Int) = 1 := by omega
      refine wp_imp (r := (setTg (.name 4) _ _).bind _) (Q := fun x => ∃ v4 : Option D, x = .nx [some o, some (.lst .z (li S)), some (.lst .z (qd T)), some (.int j), v4]) ?_ (fun x h => by obtain ⟨b, rfl⟩ := h; exact post_nx ⟨b, rfl⟩)
      refine otg (env' := [some o, some (.lst .z (li S)), some (.lst .z (qd T)), some (.int j), some (.int k)]) (by simp [evSs, evS, evE.eq_1, evE.eq_2, evE.eq_3, evE.eq_4, evE.eq_5, evE.eq_6, evE.eq_7, evE.eq_8, evE.eq_9, evE.eq_10, evE.eq_11, evE.eq_12, evE.eq_13, evE.eq_14, evE.eq_15, evE.eq_16, evE.eq_17, evE.eq_18, evE.eq_19, evE.eq_20, evE.eq_21, evE.eq_22, evE.eq_23, evE.eq_24, evE.eq_28, evE.eq_30, evE.eq_31, evE.eq_32, evE.eq_33, evE.eq_34, evE.eq_35, evE.eq_36, evE.eq_37, evE.eq_38, evE.eq_39, evE.eq_40, evE.eq_41, evEs, evP, evO, evTo, evT, evAnd, evOr, evTA, evTO, evIt, evB, wp_bind, wp_nx, wp_if, wp_ok, wp_st, ok_bind, ok_nx, ok_rt, EV.R.of_some, rof_if, nxQ_nx, nxQ_rt, wp_noEx, g_0, g_s, s_0, s_s, s_t2, bb, zz, tru_bl, noEx_j, isi_list, isi_int, isi_bool, q_ll, q_llb, lenOk_of, b_add, b_sub, b_mul, b_div, b_mod, b_pow, mulOk_r, mulOk_l, divOk_of, c_lt, c_le, c_gt, c_ge, c_eq, c_ne, c_in, c_ni, dIn_dic, x_lst, x_scr, x_dic, l_lst, l_scr, l_abs, l_int, l_list, l_tup, l_sorted, l_sortedk, i_int, q_lst, q_lstp, q_b, q_bp, q_tup, q_tupp, a_app, a_put, t_0, t_s, rng_of, li_zz, li_bb, li_clean, li_z, pr_zz, pr_bb, pr_clean, pr_z, ll_zz, ll_bb, ll_cleanO, ll_cleanZ, ll_z, clean, isZ, isZs, cleans, zzs, bbs, Fl.bb, dIn_li, dEq_li, dEq_pr, dEq_ll, dEq_int, taint, taints, li_taint, pr_taint, ll_taint, Fl.tt, li_len, pr_len, ll_len, EV.keyOf, List.map_cons, List.map_nil, List.length_cons, List.length_nil, List.set_cons_zero, List.set_cons_succ, Option.map_some]) ?_
      refine step_no (by simp [evSs, evS, evE.eq_1, evE.eq_2, evE.eq_3, evE.eq_4, evE.eq_5, evE.eq_6, evE.eq_7, evE.eq_8, evE.eq_9, evE.eq_10, evE.eq_11, evE.eq_12, evE.eq_13, evE.eq_14, evE.eq_15, evE.eq_16, evE.eq_17, evE.eq_18, evE.eq_19, evE.eq_20, evE.eq_21, evE.eq_22, evE.eq_23, evE.eq_24, evE.eq_28, evE.eq_30, evE.eq_31, evE.eq_32, evE.eq_33, evE.eq_34, evE.eq_35, evE.eq_36, evE.eq_37, evE.eq_38, evE.eq_39, evE.eq_40, evE.eq_41, evEs, evP, evO, evTo, evT, evAnd, evOr, evTA, evTO, evIt, evB, wp_bind, wp_nx, wp_if, wp_ok, wp_st, ok_bind, ok_nx, ok_rt, EV.R.of_some, rof_if, nxQ_nx, nxQ_rt, wp_noEx, g_0, g_s, s_0, s_s, s_t2, bb, zz, tru_bl, noEx_j, isi_list, isi_int, isi_bool, q_ll, q_llb, lenOk_of, b_add, b_sub, b_mul, b_div, b_mod, b_pow, mulOk_r, mulOk_l, divOk_of, c_lt, c_le, c_gt, c_ge, c_eq, c_ne, c_in, c_ni, dIn_dic, x_lst, x_scr, x_dic, l_lst, l_scr, l_abs, l_int, l_list, l_tup, l_sorted, l_sortedk, i_int, q_lst, q_lstp, q_b, q_bp, q_tup, q_tupp, a_app, a_put, t_0, t_s, rng_of, li_zz, li_bb, li_clean, li_z, pr_zz, pr_bb, pr_clean, pr_z, ll_zz, ll_bb, ll_cleanO, ll_cleanZ, ll_z, clean, isZ, isZs, cleans, zzs, bbs, Fl.bb, dIn_li, dEq_li, dEq_pr, dEq_ll, dEq_int, taint, taints, li_taint, pr_taint, ll_taint, Fl.tt, li_len, pr_len, ll_len, EV.keyOf, List.map_cons, List.map_nil, List.length_cons, List.length_nil, List.set_cons_zero, List.set_cons_succ, Option.map_some, t29_27, h.bb, qd_bb, right_call h w hT hu hk3, lenOk_of]) ?_
      exact ⟨_, rfl, _, rfl⟩
    · rintro e ⟨v4, rfl⟩
      exact ⟨_, rfl, _, _, rfl⟩
  rintro e ⟨v3, v4, rfl⟩
  rw [nxQ_nx]
  refine ofor (ds := [.int (-1), .int T.length, .int (T.length + 4)]) (by simp [evSs, evS, evE.eq_1, evE.eq_2, evE.eq_3, evE.eq_4, evE.eq_5, evE.eq_6, evE.eq_7, evE.eq_8, evE.eq_9, evE.eq_10, evE.eq_11, evE.eq_12, evE.eq_13, evE.eq_14, evE.eq_15, evE.eq_16, evE.eq_17, evE.eq_18, evE.eq_19, evE.eq_20, evE.eq_21, evE.eq_22, evE.eq_23, evE.eq_24, evE.eq_28, evE.eq_30, evE.eq_31, evE.eq_32, evE.eq_33, evE.eq_34, evE.eq_35, evE.eq_36, evE.eq_37, evE.eq_38, evE.eq_39, evE.eq_40, evE.eq_41, evEs, evP, evO, evTo, evT, evAnd, evOr, evTA, evTO, evIt, evB, wp_bind, wp_nx, wp_if, wp_ok, wp_st, ok_bind, ok_nx, ok_rt, EV.R.of_some, rof_if, nxQ_nx, nxQ_rt, wp_noEx, g_0, g_s, s_0, s_s, s_t2, bb, zz, tru_bl, noEx_j, isi_list, isi_int, isi_bool, q_ll, q_llb, lenOk_of, b_add, b_sub, b_mul, b_div, b_mod, b_pow, mulOk_r, mulOk_l, divOk_of, c_lt, c_le, c_gt, c_ge, c_eq, c_ne, c_in, c_ni, dIn_dic, x_lst, x_scr, x_dic, l_lst, l_scr, l_abs, l_int, l_list, l_tup, l_sorted, l_sortedk, i_int, q_lst, q_lstp, q_b, q_bp, q_tup, q_tupp, a_app, a_put, t_0, t_s, rng_of, li_zz, li_bb, li_clean, li_z, pr_zz, pr_bb, pr_clean, pr_z, ll_zz, ll_bb, ll_cleanO, ll_cleanZ, ll_z, clean, isZ, isZs, cleans, zzs, bbs, Fl.bb, dIn_li, dEq_li, dEq_pr, dEq_ll, dEq_int, taint, taints, li_taint, pr_taint, ll_taint, Fl.tt, li_len, pr_len, ll_len, EV.keyOf, List.map_cons, List.map_nil, List.length_cons, List.length_nil, List.set_cons_zero, List.set_cons_succ, Option.map_some, qd_bb, qd_len, lenOk_of, seqOf]) ?_
  refine wp_for (fun _ e => ∃ v3 v4 : Option D, e = [some o, some (.lst .z (li S)), some (.lst .z (qd T)), v3, v4]) ⟨_, _, rfl⟩ ?_ ?_
  · rintro j x e hj ⟨v3, v4, rfl⟩
    have hq : ∃ i : Int, x = .int i ∧ (i < 0 ∨ (T.length : Int) ≤ i) ∧ -(10 ^ 30) ≤ i ∧ i ≤ 10 ^ 30 := by
      rcases j with _ | _ | _ | j <;> simp at hj
      · exact ⟨_, hj.symm, by omega, by omega, by omega⟩
      · exact ⟨_, hj.symm, by omega, by omega, by omega⟩
      · exact ⟨_, hj.symm, by omega, by omega, by omega⟩
    obtain ⟨i, rfl, a, b, c⟩ := hq
    have r0 := refused_call h hx 0 a b c
    have r1 := refused_call h hx 1 a b c
    simp [evSs, evS, evE.eq_1, evE.eq_2, evE.eq_3, evE.eq_4, evE.eq_5, evE.eq_6, evE.eq_7, evE.eq_8, evE.eq_9, evE.eq_10, evE.eq_11, evE.eq_12, evE.eq_13, evE.eq_14, evE.eq_15, evE.eq_16, evE.eq_17, evE.eq_18, evE.eq_19, evE.eq_20, evE.eq_21, evE.eq_22, evE.eq_23, evE.eq_24, evE.eq_28, evE.eq_30, evE.eq_31, evE.eq_32, evE.eq_33, evE.eq_34, evE.eq_35, evE.eq_36, evE.eq_37, evE.eq_38, evE.eq_39, evE.eq_40, evE.eq_41, evEs, evP, evO, evTo, evT, evAnd, evOr, evTA, evTO, evIt, evB, wp_bind, wp_nx, wp_if, wp_ok, wp_st, ok_bind, ok_nx, ok_rt, EV.R.of_some, rof_if, nxQ_nx, nxQ_rt, wp_noEx, g_0, g_s, s_0, s_s, s_t2, bb, zz, tru_bl, noEx_j, isi_list, isi_int, isi_bool, q_ll, q_llb, lenOk_of, b_add, b_sub, b_mul, b_div, b_mod, b_pow, mulOk_r, mulOk_l, divOk_of, c_lt, c_le, c_gt, c_ge, c_eq, c_ne, c_in, c_ni, dIn_dic, x_lst, x_scr, x_dic, l_lst, l_scr, l_abs, l_int, l_list, l_tup, l_sorted, l_sortedk, i_int, q_lst, q_lstp, q_b, q_bp, q_tup, q_tupp, a_app, a_put, t_0, t_s, rng_of, li_zz, li_bb, li_clean, li_z, pr_zz, pr_bb, pr_clean, pr_z, ll_zz, ll_bb, ll_cleanO, ll_cleanZ, ll_z, clean, isZ, isZs, cleans, zzs, bbs, Fl.bb, dIn_li, dEq_li, dEq_pr, dEq_ll, dEq_int, taint, taints, li_taint, pr_taint, ll_taint, Fl.tt, li_len, pr_len, ll_len, EV.keyOf, List.map_cons, List.map_nil, List.length_cons, List.length_nil, List.set_cons_zero, List.set_cons_succ, Option.map_some, t29_28, h.bb, r0, r1, lenOk_of]
    exact post_nx ⟨_, _, rfl⟩
  rintro e ⟨v3, v4, rfl⟩
  rw [nxQ_nx]
  exact step_ret (d := .bl true) (by simp [evSs, evS, evE.eq_1, evE.eq_2, evE.eq_3, evE.eq_4, evE.eq_5, evE.eq_6, evE.eq_7, evE.eq_8, evE.eq_9, evE.eq_10, evE.eq_11, evE.eq_12, evE.eq_13, evE.eq_14, evE.eq_15, evE.eq_16, evE.eq_17, evE.eq_18, evE.eq_19, evE.eq_20, evE.eq_21, evE.eq_22, evE.eq_23, evE.eq_24, evE.eq_28, evE.eq_30, evE.eq_31, evE.eq_32, evE.eq_33, evE.eq_34, evE.eq_35, evE.eq_36, evE.eq_37, evE.eq_38, evE.eq_39, evE.eq_40, evE.eq_41, evEs, evP, evO, evTo, evT, evAnd, evOr, evTA, evTO, evIt, evB, wp_bind, wp_nx, wp_if, wp_ok, wp_st, ok_bind, ok_nx, ok_rt, EV.R.of_some, rof_if, nxQ_nx, nxQ_rt, wp_noEx, g_0, g_s, s_0, s_s, s_t2, bb, zz, tru_bl, noEx_j, isi_list, isi_int, isi_bool, q_ll, q_llb, lenOk_of, b_add, b_sub, b_mul, b_div, b_mod, b_pow, mulOk_r, mulOk_l, divOk_of, c_lt, c_le, c_gt, c_ge, c_eq, c_ne, c_in, c_ni, dIn_dic, x_lst, x_scr, x_dic, l_lst, l_scr, l_abs, l_int, l_list, l_tup, l_sorted, l_sortedk, i_int, q_lst, q_lstp, q_b, q_bp, q_tup, q_tupp, a_app, a_put, t_0, t_s, rng_of, li_zz, li_bb, li_clean, li_z, pr_zz, pr_bb, pr_clean, pr_z, ll_zz, ll_bb, ll_cleanO, ll_cleanZ, ll_z, clean, isZ, isZs, cleans, zzs, bbs, Fl.bb, dIn_li, dEq_li, dEq_pr, dEq_ll, dEq_int, taint, taints, li_taint, pr_taint, ll_taint, Fl.tt, li_len, pr_len, ll_len, EV.keyOf, List.map_cons, List.map_nil, List.length_cons, List.length_nil, List.set_cons_zero, List.set_cons_succ, Option.map_some, h.bb, h.sides, h.ties, l_listt, qd_bb, dEq_qd]) rfl
theorem web_call {o : D} {S : List Int} {T : List Tie} {f g : Fl} (h : Ob o S T) (hx : noX o = true) (w : WebOk S T) (hT : T.length ≤ 300) : callD F29 [o, .lst f (li S), .lst g (qd T)] = .ok (.bl true) :=
  callD_v rfl (by simp only [zzs, zz, h.zz, li_zz, qd_zz]; exact web_right h hx w hT) (.inr bl_back)
end K08
namespace K08
open PySem L2 EV
theorem draws_call (c m : Int) (h0 : 0 ≤ m) (h1 : m ≤ 60) : ∃ L : List Int, callD F0 [.int c, .int m] = .ok (.lst .o (li L)) := by
  obtain ⟨d, e, L, rfl, _⟩ := draws_ok c m h0 h1
  exact ⟨L, callD_v rfl e (.inl rfl)⟩
theorem web3_call (L : List Int) (a : Int) (h0 : 0 ≤ a) (h1 : a ≤ 7) : ∃ S T, callD F3 [.lst .o (li L), .int a, .int 12] = .ok (.tup [.lst .z (li S), .lst .z (qd T)]) ∧ S.length ≤ 7 ∧ T.length ≤ 12 ∧ WebOk S T := by
  obtain ⟨d, e, S, T, rfl, h2, h3, w⟩ := web_ok L a 12 h0 (by omega) (by decide) (by decide)
  refine ⟨S, T, callD_v rfl (by simp only [zzs, zz, li_zz]; exact e) (.inl (by simp [cleans, clean, li_clean])), by omega, by omega, w⟩
theorem w4_zz {f : Fl} {S : List Int} {T : List Tie} {J : List Int} : zz (w4 f S T J) = w4 .z S T J := by simp [w4, zz, zzs, li_zz, qd_zz, lv_zz]
theorem w4_clean {S : List Int} {T : List Tie} {J : List Int} : clean (w4 .o S T J) = true := by simp [w4, clean, cleans, li_clean, qd_clean, lv_clean]
theorem li_noX : ∀ L : List Int, noXs (li L) = true
  | [] => rfl | x :: L => li_noX L
theorem qd_noX : ∀ L : List Tie, noXs (qd L) = true
  | [] => rfl | x :: L => qd_noX L
theorem pr_noX : ∀ L : List (Int × Int), noXs (pr L) = true
  | [] => rfl | x :: L => pr_noX L
theorem lv_noX (n : Nat) (T : List Tie) : noXs (lv n T) = true := by
  unfold lv
  generalize List.range n = L
  induction L with
  | nil => rfl
  | cons x L ih => simp [noXs, noX, pr_noX, ih]
theorem w4_noX {f : Fl} {S : List Int} {T : List Tie} {J : List Int} : noX (w4 f S T J) = true := by simp [w4, noX, noXs, li_noX, qd_noX, lv_noX]
theorem law_ok {s : D} (hz : isZ s = true) (hb : bb s = s) (hc : ∀ k : Int, 0 ≤ k → Wp (F1.sem [s, .int k]) fun d => ∃ c, d = .int c) : F30.sem [s] = .ok (.bl true) := by
  have cell : ∀ k : Int, 0 ≤ k → ∃ c, callD F1 [s, .int k] = .ok (.int c) := fun k hk => by
    obtain ⟨d, e, c, rfl⟩ := hc k hk
    exact ⟨c, callD_v rfl (by simp only [zzs, zz_id s hz]; exact e) (.inr int_back)⟩
  obtain ⟨c0, k0⟩ := cell 0 (by decide)
  obtain ⟨c1, k1⟩ := cell 1 (by decide)
  obtain ⟨c2, k2⟩ := cell 2 (by decide)
  obtain ⟨L0, d0⟩ := draws_call c0 60 (by decide) (by decide)
  obtain ⟨L1, d1⟩ := draws_call c1 60 (by decide) (by decide)
  obtain ⟨L2, d2⟩ := draws_call c2 2 (by decide) (by decide)
  refine run_eq ?_
  show Wp (evSs T30 dr30.body [some s, none, none, none, none, none, none, none, none]) _
  unfold dr30
  refine step (by simp [evSs, evS, evE.eq_1, evE.eq_2, evE.eq_3, evE.eq_4, evE.eq_5, evE.eq_6, evE.eq_7, evE.eq_8, evE.eq_9, evE.eq_10, evE.eq_11, evE.eq_12, evE.eq_13, evE.eq_14, evE.eq_15, evE.eq_16, evE.eq_17, evE.eq_18, evE.eq_19, evE.eq_20, evE.eq_21, evE.eq_22, evE.eq_23, evE.eq_24, evE.eq_28, evE.eq_30, evE.eq_31, evE.eq_32, evE.eq_33, evE.eq_34, evE.eq_35, evE.eq_36, evE.eq_37, evE.eq_38, evE.eq_39, evE.eq_40, evE.eq_41, evEs, evP, evO, evTo, evT, evAnd, evOr, evTA, evTO, evIt, evB, wp_bind, wp_nx, wp_if, wp_ok, wp_st, ok_bind, ok_nx, ok_rt, EV.R.of_some, rof_if, nxQ_nx, nxQ_rt, wp_noEx, g_0, g_s, s_0, s_s, s_t2, bb, zz, tru_bl, noEx_j, isi_list, isi_int, isi_bool, q_ll, q_llb, lenOk_of, b_add, b_sub, b_mul, b_div, b_mod, b_pow, mulOk_r, mulOk_l, divOk_of, c_lt, c_le, c_gt, c_ge, c_eq, c_ne, c_in, c_ni, dIn_dic, x_lst, x_scr, x_dic, l_lst, l_scr, l_abs, l_int, l_list, l_tup, l_sorted, l_sortedk, i_int, q_lst, q_lstp, q_b, q_bp, q_tup, q_tupp, a_app, a_put, t_0, t_s, rng_of, li_zz, li_bb, li_clean, li_z, pr_zz, pr_bb, pr_clean, pr_z, ll_zz, ll_bb, ll_cleanO, ll_cleanZ, ll_z, clean, isZ, isZs, cleans, zzs, bbs, Fl.bb, dIn_li, dEq_li, dEq_pr, dEq_ll, dEq_int, taint, taints, li_taint, pr_taint, ll_taint, Fl.tt, li_len, pr_len, ll_len, EV.keyOf, List.map_cons, List.map_nil, List.length_cons, List.length_nil, List.set_cons_zero, List.set_cons_succ, Option.map_some, hb, t30_1, t30_0, k2, d2] <;> rfl) ?_
  refine step (by simp [evSs, evS, evE.eq_1, evE.eq_2, evE.eq_3, evE.eq_4, evE.eq_5, evE.eq_6, evE.eq_7, evE.eq_8, evE.eq_9, evE.eq_10, evE.eq_11, evE.eq_12, evE.eq_13, evE.eq_14, evE.eq_15, evE.eq_16, evE.eq_17, evE.eq_18, evE.eq_19, evE.eq_20, evE.eq_21, evE.eq_22, evE.eq_23, evE.eq_24, evE.eq_28, evE.eq_30, evE.eq_31, evE.eq_32, evE.eq_33, evE.eq_34, evE.eq_35, evE.eq_36, evE.eq_37, evE.eq_38, evE.eq_39, evE.eq_40, evE.eq_41, evEs, evP, evO, evTo, evT, evAnd, evOr, evTA, evTO, evIt, evB, wp_bind, wp_nx, wp_if, wp_ok, wp_st, ok_bind, ok_nx, ok_rt, EV.R.of_some, rof_if, nxQ_nx, nxQ_rt, wp_noEx, g_0, g_s, s_0, s_s, s_t2, bb, zz, tru_bl, noEx_j, isi_list, isi_int, isi_bool, q_ll, q_llb, lenOk_of, b_add, b_sub, b_mul, b_div, b_mod, b_pow, mulOk_r, mulOk_l, divOk_of, c_lt, c_le, c_gt, c_ge, c_eq, c_ne, c_in, c_ni, dIn_dic, x_lst, x_scr, x_dic, l_lst, l_scr, l_abs, l_int, l_list, l_tup, l_sorted, l_sortedk, i_int, q_lst, q_lstp, q_b, q_bp, q_tup, q_tupp, a_app, a_put, t_0, t_s, rng_of, li_zz, li_bb, li_clean, li_z, pr_zz, pr_bb, pr_clean, pr_z, ll_zz, ll_bb, ll_cleanO, ll_cleanZ, ll_z, clean, isZ, isZs, cleans, zzs, bbs, Fl.bb, dIn_li, dEq_li, dEq_pr, dEq_ll, dEq_int, taint, taints, li_taint, pr_taint, ll_taint, Fl.tt, li_len, pr_len, ll_len, EV.keyOf, List.map_cons, List.map_nil, List.length_cons, List.length_nil, List.set_cons_zero, List.set_cons_succ, Option.map_some] <;> rfl) ?_
  refine step (by simp [evSs, evS, evE.eq_1, evE.eq_2, evE.eq_3, evE.eq_4, evE.eq_5, evE.eq_6, evE.eq_7, evE.eq_8, evE.eq_9, evE.eq_10, evE.eq_11, evE.eq_12, evE.eq_13, evE.eq_14, evE.eq_15, evE.eq_16, evE.eq_17, evE.eq_18, evE.eq_19, evE.eq_20, evE.eq_21, evE.eq_22, evE.eq_23, evE.eq_24, evE.eq_28, evE.eq_30, evE.eq_31, evE.eq_32, evE.eq_33, evE.eq_34, evE.eq_35, evE.eq_36, evE.eq_37, evE.eq_38, evE.eq_39, evE.eq_40, evE.eq_41, evEs, evP, evO, evTo, evT, evAnd, evOr, evTA, evTO, evIt, evB, wp_bind, wp_nx, wp_if, wp_ok, wp_st, ok_bind, ok_nx, ok_rt, EV.R.of_some, rof_if, nxQ_nx, nxQ_rt, wp_noEx, g_0, g_s, s_0, s_s, s_t2, bb, zz, tru_bl, noEx_j, isi_list, isi_int, isi_bool, q_ll, q_llb, lenOk_of, b_add, b_sub, b_mul, b_div, b_mod, b_pow, mulOk_r, mulOk_l, divOk_of, c_lt, c_le, c_gt, c_ge, c_eq, c_ne, c_in, c_ni, dIn_dic, x_lst, x_scr, x_dic, l_lst, l_scr, l_abs, l_int, l_list, l_tup, l_sorted, l_sortedk, i_int, q_lst, q_lstp, q_b, q_bp, q_tup, q_tupp, a_app, a_put, t_0, t_s, rng_of, li_zz, li_bb, li_clean, li_z, pr_zz, pr_bb, pr_clean, pr_z, ll_zz, ll_bb, ll_cleanO, ll_cleanZ, ll_z, clean, isZ, isZs, cleans, zzs, bbs, Fl.bb, dIn_li, dEq_li, dEq_pr, dEq_ll, dEq_int, taint, taints, li_taint, pr_taint, ll_taint, Fl.tt, li_len, pr_len, ll_len, EV.keyOf, List.map_cons, List.map_nil, List.length_cons, List.length_nil, List.set_cons_zero, List.set_cons_succ, Option.map_some] <;> rfl) ?_
  have body : ∀ m : Int, 0 ≤ m → m ≤ 7 → Wp (evSs T30 (.cons (.asg (.tup [3, 4]) (.call 3 (.cons (.call 0 (.cons (.call 1 (.cons (.slot 0) (.cons (.int 0) .nil))) (.cons (.int 60) .nil))) (.cons (.slot 2) (.cons (.int 12) .nil))))) (.cons (.asg (.tup [5, 6]) (.call 3 (.cons (.call 0 (.cons (.call 1 (.cons (.slot 0) (.cons (.int 1) .nil))) (.cons (.int 60) .nil))) (.cons (.slot 2) (.cons (.int 12) .nil))))) (.cons (.asg (.name 7) (.make "Web" 18 (.cons (.blt .list (.slot 3)) (.cons (.blt .list (.slot 4)) .nil)))) (.cons (.frz 7) (.cons (.asg (.name 8) (.make "Web" 18 (.cons (.blt .list (.slot 5)) (.cons (.blt .list (.slot 6)) .nil)))) (.cons (.frz 8) (.cons (.ife (.not (.v (.call 29 (.cons (.slot 7) (.cons (.slot 3) (.cons (.slot 4) .nil)))))) (.cons (.ret (.bl false)) .nil) .nil) (.cons (.ret (.and (.cons (.call 29 (.cons (.slot 8) (.cons (.slot 5) (.cons (.slot 6) .nil)))) (.cons (.call 29 (.cons (.slot 7) (.cons (.slot 3) (.cons (.slot 4) .nil)))) .nil)))) .nil)))))))) [some s, some (.lst .z (li L2)), some (.int m), none, none, none, none, none, none]) fun o => o = .rt (.bl true) := fun m h0 h1 => by
    obtain ⟨S, T, p1, lS, lT, w⟩ := web3_call L0 m h0 h1
    obtain ⟨S', T', p2, lS', lT', w'⟩ := web3_call L1 m h0 h1
    have mk := make_web w (by omega) (by omega)
    have mk2 := make_web w' (by omega) (by omega)
    have r1 := web_call (f := .z) (g := .z) (ob4 (J := jn S.length T)) w4_noX w (by omega)
    have r2 := web_call (f := .z) (g := .z) (ob4 (J := jn S'.length T')) w4_noX w' (by omega)
    refine step (by simp [evSs, evS, evE.eq_1, evE.eq_2, evE.eq_3, evE.eq_4, evE.eq_5, evE.eq_6, evE.eq_7, evE.eq_8, evE.eq_9, evE.eq_10, evE.eq_11, evE.eq_12, evE.eq_13, evE.eq_14, evE.eq_15, evE.eq_16, evE.eq_17, evE.eq_18, evE.eq_19, evE.eq_20, evE.eq_21, evE.eq_22, evE.eq_23, evE.eq_24, evE.eq_28, evE.eq_30, evE.eq_31, evE.eq_32, evE.eq_33, evE.eq_34, evE.eq_35, evE.eq_36, evE.eq_37, evE.eq_38, evE.eq_39, evE.eq_40, evE.eq_41, evEs, evP, evO, evTo, evT, evAnd, evOr, evTA, evTO, evIt, evB, wp_bind, wp_nx, wp_if, wp_ok, wp_st, ok_bind, ok_nx, ok_rt, EV.R.of_some, rof_if, nxQ_nx, nxQ_rt, wp_noEx, g_0, g_s, s_0, s_s, s_t2, bb, zz, tru_bl, noEx_j, isi_list, isi_int, isi_bool, q_ll, q_llb, lenOk_of, b_add, b_sub, b_mul, b_div, b_mod, b_pow, mulOk_r, mulOk_l, divOk_of, c_lt, c_le, c_gt, c_ge, c_eq, c_ne, c_in, c_ni, dIn_dic, x_lst, x_scr, x_dic, l_lst, l_scr, l_abs, l_int, l_list, l_tup, l_sorted, l_sortedk, i_int, q_lst, q_lstp, q_b, q_bp, q_tup, q_tupp, a_app, a_put, t_0, t_s, rng_of, li_zz, li_bb, li_clean, li_z, pr_zz, pr_bb, pr_clean, pr_z, ll_zz, ll_bb, ll_cleanO, ll_cleanZ, ll_z, clean, isZ, isZs, cleans, zzs, bbs, Fl.bb, dIn_li, dEq_li, dEq_pr, dEq_ll, dEq_int, taint, taints, li_taint, pr_taint, ll_taint, Fl.tt, li_len, pr_len, ll_len, EV.keyOf, List.map_cons, List.map_nil, List.length_cons, List.length_nil, List.set_cons_zero, List.set_cons_succ, Option.map_some, hb, t30_1, t30_0, t30_3, k0, d0, p1, qd_z] <;> rfl) ?_
    refine step (by simp [evSs, evS, evE.eq_1, evE.eq_2, evE.eq_3, evE.eq_4, evE.eq_5, evE.eq_6, evE.eq_7, evE.eq_8, evE.eq_9, evE.eq_10, evE.eq_11, evE.eq_12, evE.eq_13, evE.eq_14, evE.eq_15, evE.eq_16, evE.eq_17, evE.eq_18, evE.eq_19, evE.eq_20, evE.eq_21, evE.eq_22, evE.eq_23, evE.eq_24, evE.eq_28, evE.eq_30, evE.eq_31, evE.eq_32, evE.eq_33, evE.eq_34, evE.eq_35, evE.eq_36, evE.eq_37, evE.eq_38, evE.eq_39, evE.eq_40, evE.eq_41, evEs, evP, evO, evTo, evT, evAnd, evOr, evTA, evTO, evIt, evB, wp_bind, wp_nx, wp_if, wp_ok, wp_st, ok_bind, ok_nx, ok_rt, EV.R.of_some, rof_if, nxQ_nx, nxQ_rt, wp_noEx, g_0, g_s, s_0, s_s, s_t2, bb, zz, tru_bl, noEx_j, isi_list, isi_int, isi_bool, q_ll, q_llb, lenOk_of, b_add, b_sub, b_mul, b_div, b_mod, b_pow, mulOk_r, mulOk_l, divOk_of, c_lt, c_le, c_gt, c_ge, c_eq, c_ne, c_in, c_ni, dIn_dic, x_lst, x_scr, x_dic, l_lst, l_scr, l_abs, l_int, l_list, l_tup, l_sorted, l_sortedk, i_int, q_lst, q_lstp, q_b, q_bp, q_tup, q_tupp, a_app, a_put, t_0, t_s, rng_of, li_zz, li_bb, li_clean, li_z, pr_zz, pr_bb, pr_clean, pr_z, ll_zz, ll_bb, ll_cleanO, ll_cleanZ, ll_z, clean, isZ, isZs, cleans, zzs, bbs, Fl.bb, dIn_li, dEq_li, dEq_pr, dEq_ll, dEq_int, taint, taints, li_taint, pr_taint, ll_taint, Fl.tt, li_len, pr_len, ll_len, EV.keyOf, List.map_cons, List.map_nil, List.length_cons, List.length_nil, List.set_cons_zero, List.set_cons_succ, Option.map_some, hb, t30_1, t30_0, t30_3, k1, d1, p2, qd_z] <;> rfl) ?_
    refine step (by simp [evSs, evS, evE.eq_1, evE.eq_2, evE.eq_3, evE.eq_4, evE.eq_5, evE.eq_6, evE.eq_7, evE.eq_8, evE.eq_9, evE.eq_10, evE.eq_11, evE.eq_12, evE.eq_13, evE.eq_14, evE.eq_15, evE.eq_16, evE.eq_17, evE.eq_18, evE.eq_19, evE.eq_20, evE.eq_21, evE.eq_22, evE.eq_23, evE.eq_24, evE.eq_28, evE.eq_30, evE.eq_31, evE.eq_32, evE.eq_33, evE.eq_34, evE.eq_35, evE.eq_36, evE.eq_37, evE.eq_38, evE.eq_39, evE.eq_40, evE.eq_41, evEs, evP, evO, evTo, evT, evAnd, evOr, evTA, evTO, evIt, evB, wp_bind, wp_nx, wp_if, wp_ok, wp_st, ok_bind, ok_nx, ok_rt, EV.R.of_some, rof_if, nxQ_nx, nxQ_rt, wp_noEx, g_0, g_s, s_0, s_s, s_t2, bb, zz, tru_bl, noEx_j, isi_list, isi_int, isi_bool, q_ll, q_llb, lenOk_of, b_add, b_sub, b_mul, b_div, b_mod, b_pow, mulOk_r, mulOk_l, divOk_of, c_lt, c_le, c_gt, c_ge, c_eq, c_ne, c_in, c_ni, dIn_dic, x_lst, x_scr, x_dic, l_lst, l_scr, l_abs, l_int, l_list, l_tup, l_sorted, l_sortedk, i_int, q_lst, q_lstp, q_b, q_bp, q_tup, q_tupp, a_app, a_put, t_0, t_s, rng_of, li_zz, li_bb, li_clean, li_z, pr_zz, pr_bb, pr_clean, pr_z, ll_zz, ll_bb, ll_cleanO, ll_cleanZ, ll_z, clean, isZ, isZs, cleans, zzs, bbs, Fl.bb, dIn_li, dEq_li, dEq_pr, dEq_ll, dEq_int, taint, taints, li_taint, pr_taint, ll_taint, Fl.tt, li_len, pr_len, ll_len, EV.keyOf, List.map_cons, List.map_nil, List.length_cons, List.length_nil, List.set_cons_zero, List.set_cons_succ, Option.map_some, t30_18, qd_bb, mk, w4_clean] <;> rfl) ?_
    refine step (by simp [evSs, evS, evE.eq_1, evE.eq_2, evE.eq_3, evE.eq_4, evE.eq_5, evE.eq_6, evE.eq_7, evE.eq_8, evE.eq_9, evE.eq_10, evE.eq_11, evE.eq_12, evE.eq_13, evE.eq_14, evE.eq_15, evE.eq_16, evE.eq_17, evE.eq_18, evE.eq_19, evE.eq_20, evE.eq_21, evE.eq_22, evE.eq_23, evE.eq_24, evE.eq_28, evE.eq_30, evE.eq_31, evE.eq_32, evE.eq_33, evE.eq_34, evE.eq_35, evE.eq_36, evE.eq_37, evE.eq_38, evE.eq_39, evE.eq_40, evE.eq_41, evEs, evP, evO, evTo, evT, evAnd, evOr, evTA, evTO, evIt, evB, wp_bind, wp_nx, wp_if, wp_ok, wp_st, ok_bind, ok_nx, ok_rt, EV.R.of_some, rof_if, nxQ_nx, nxQ_rt, wp_noEx, g_0, g_s, s_0, s_s, s_t2, bb, zz, tru_bl, noEx_j, isi_list, isi_int, isi_bool, q_ll, q_llb, lenOk_of, b_add, b_sub, b_mul, b_div, b_mod, b_pow, mulOk_r, mulOk_l, divOk_of, c_lt, c_le, c_gt, c_ge, c_eq, c_ne, c_in, c_ni, dIn_dic, x_lst, x_scr, x_dic, l_lst, l_scr, l_abs, l_int, l_list, l_tup, l_sorted, l_sortedk, i_int, q_lst, q_lstp, q_b, q_bp, q_tup, q_tupp, a_app, a_put, t_0, t_s, rng_of, li_zz, li_bb, li_clean, li_z, pr_zz, pr_bb, pr_clean, pr_z, ll_zz, ll_bb, ll_cleanO, ll_cleanZ, ll_z, clean, isZ, isZs, cleans, zzs, bbs, Fl.bb, dIn_li, dEq_li, dEq_pr, dEq_ll, dEq_int, taint, taints, li_taint, pr_taint, ll_taint, Fl.tt, li_len, pr_len, ll_len, EV.keyOf, List.map_cons, List.map_nil, List.length_cons, List.length_nil, List.set_cons_zero, List.set_cons_succ, Option.map_some, w4_zz] <;> rfl) ?_
    refine step (by simp [evSs, evS, evE.eq_1, evE.eq_2, evE.eq_3, evE.eq_4, evE.eq_5, evE.eq_6, evE.eq_7, evE.eq_8, evE.eq_9, evE.eq_10, evE.eq_11, evE.eq_12, evE.eq_13, evE.eq_14, evE.eq_15, evE.eq_16, evE.eq_17, evE.eq_18, evE.eq_19, evE.eq_20, evE.eq_21, evE.eq_22, evE.eq_23, evE.eq_24, evE.eq_28, evE.eq_30, evE.eq_31, evE.eq_32, evE.eq_33, evE.eq_34, evE.eq_35, evE.eq_36, evE.eq_37, evE.eq_38, evE.eq_39, evE.eq_40, evE.eq_41, evEs, evP, evO, evTo, evT, evAnd, evOr, evTA, evTO, evIt, evB, wp_bind, wp_nx, wp_if, wp_ok, wp_st, ok_bind, ok_nx, ok_rt, EV.R.of_some, rof_if, nxQ_nx, nxQ_rt, wp_noEx, g_0, g_s, s_0, s_s, s_t2, bb, zz, tru_bl, noEx_j, isi_list, isi_int, isi_bool, q_ll, q_llb, lenOk_of, b_add, b_sub, b_mul, b_div, b_mod, b_pow, mulOk_r, mulOk_l, divOk_of, c_lt, c_le, c_gt, c_ge, c_eq, c_ne, c_in, c_ni, dIn_dic, x_lst, x_scr, x_dic, l_lst, l_scr, l_abs, l_int, l_list, l_tup, l_sorted, l_sortedk, i_int, q_lst, q_lstp, q_b, q_bp, q_tup, q_tupp, a_app, a_put, t_0, t_s, rng_of, li_zz, li_bb, li_clean, li_z, pr_zz, pr_bb, pr_clean, pr_z, ll_zz, ll_bb, ll_cleanO, ll_cleanZ, ll_z, clean, isZ, isZs, cleans, zzs, bbs, Fl.bb, dIn_li, dEq_li, dEq_pr, dEq_ll, dEq_int, taint, taints, li_taint, pr_taint, ll_taint, Fl.tt, li_len, pr_len, ll_len, EV.keyOf, List.map_cons, List.map_nil, List.length_cons, List.length_nil, List.set_cons_zero, List.set_cons_succ, Option.map_some, t30_18, qd_bb, mk2, w4_clean] <;> rfl) ?_
    refine step (by simp [evSs, evS, evE.eq_1, evE.eq_2, evE.eq_3, evE.eq_4, evE.eq_5, evE.eq_6, evE.eq_7, evE.eq_8, evE.eq_9, evE.eq_10, evE.eq_11, evE.eq_12, evE.eq_13, evE.eq_14, evE.eq_15, evE.eq_16, evE.eq_17, evE.eq_18, evE.eq_19, evE.eq_20, evE.eq_21, evE.eq_22, evE.eq_23, evE.eq_24, evE.eq_28, evE.eq_30, evE.eq_31, evE.eq_32, evE.eq_33, evE.eq_34, evE.eq_35, evE.eq_36, evE.eq_37, evE.eq_38, evE.eq_39, evE.eq_40, evE.eq_41, evEs, evP, evO, evTo, evT, evAnd, evOr, evTA, evTO, evIt, evB, wp_bind, wp_nx, wp_if, wp_ok, wp_st, ok_bind, ok_nx, ok_rt, EV.R.of_some, rof_if, nxQ_nx, nxQ_rt, wp_noEx, g_0, g_s, s_0, s_s, s_t2, bb, zz, tru_bl, noEx_j, isi_list, isi_int, isi_bool, q_ll, q_llb, lenOk_of, b_add, b_sub, b_mul, b_div, b_mod, b_pow, mulOk_r, mulOk_l, divOk_of, c_lt, c_le, c_gt, c_ge, c_eq, c_ne, c_in, c_ni, dIn_dic, x_lst, x_scr, x_dic, l_lst, l_scr, l_abs, l_int, l_list, l_tup, l_sorted, l_sortedk, i_int, q_lst, q_lstp, q_b, q_bp, q_tup, q_tupp, a_app, a_put, t_0, t_s, rng_of, li_zz, li_bb, li_clean, li_z, pr_zz, pr_bb, pr_clean, pr_z, ll_zz, ll_bb, ll_cleanO, ll_cleanZ, ll_z, clean, isZ, isZs, cleans, zzs, bbs, Fl.bb, dIn_li, dEq_li, dEq_pr, dEq_ll, dEq_int, taint, taints, li_taint, pr_taint, ll_taint, Fl.tt, li_len, pr_len, ll_len, EV.keyOf, List.map_cons, List.map_nil, List.length_cons, List.length_nil, List.set_cons_zero, List.set_cons_succ, Option.map_some, w4_zz] <;> rfl) ?_
    have b1 := (ob4 (S := S) (T := T) (J := jn S.length T)).bb
    have b2 := (ob4 (S := S') (T := T') (J := jn S'.length T')).bb
    refine step_no (by simp [evSs, evS, evE.eq_1, evE.eq_2, evE.eq_3, evE.eq_4, evE.eq_5, evE.eq_6, evE.eq_7, evE.eq_8, evE.eq_9, evE.eq_10, evE.eq_11, evE.eq_12, evE.eq_13, evE.eq_14, evE.eq_15, evE.eq_16, evE.eq_17, evE.eq_18, evE.eq_19, evE.eq_20, evE.eq_21, evE.eq_22, evE.eq_23, evE.eq_24, evE.eq_28, evE.eq_30, evE.eq_31, evE.eq_32, evE.eq_33, evE.eq_34, evE.eq_35, evE.eq_36, evE.eq_37, evE.eq_38, evE.eq_39, evE.eq_40, evE.eq_41, evEs, evP, evO, evTo, evT, evAnd, evOr, evTA, evTO, evIt, evB, wp_bind, wp_nx, wp_if, wp_ok, wp_st, ok_bind, ok_nx, ok_rt, EV.R.of_some, rof_if, nxQ_nx, nxQ_rt, wp_noEx, g_0, g_s, s_0, s_s, s_t2, bb, zz, tru_bl, noEx_j, isi_list, isi_int, isi_bool, q_ll, q_llb, lenOk_of, b_add, b_sub, b_mul, b_div, b_mod, b_pow, mulOk_r, mulOk_l, divOk_of, c_lt, c_le, c_gt, c_ge, c_eq, c_ne, c_in, c_ni, dIn_dic, x_lst, x_scr, x_dic, l_lst, l_scr, l_abs, l_int, l_list, l_tup, l_sorted, l_sortedk, i_int, q_lst, q_lstp, q_b, q_bp, q_tup, q_tupp, a_app, a_put, t_0, t_s, rng_of, li_zz, li_bb, li_clean, li_z, pr_zz, pr_bb, pr_clean, pr_z, ll_zz, ll_bb, ll_cleanO, ll_cleanZ, ll_z, clean, isZ, isZs, cleans, zzs, bbs, Fl.bb, dIn_li, dEq_li, dEq_pr, dEq_ll, dEq_int, taint, taints, li_taint, pr_taint, ll_taint, Fl.tt, li_len, pr_len, ll_len, EV.keyOf, List.map_cons, List.map_nil, List.length_cons, List.length_nil, List.set_cons_zero, List.set_cons_succ, Option.map_some, t30_29, qd_bb, b1, r1]) ?_
    exact step_ret (d := .bl true) (by simp [evSs, evS, evE.eq_1, evE.eq_2, evE.eq_3, evE.eq_4, evE.eq_5, evE.eq_6, evE.eq_7, evE.eq_8, evE.eq_9, evE.eq_10, evE.eq_11, evE.eq_12, evE.eq_13, evE.eq_14, evE.eq_15, evE.eq_16, evE.eq_17, evE.eq_18, evE.eq_19, evE.eq_20, evE.eq_21, evE.eq_22, evE.eq_23, evE.eq_24, evE.eq_28, evE.eq_30, evE.eq_31, evE.eq_32, evE.eq_33, evE.eq_34, evE.eq_35, evE.eq_36, evE.eq_37, evE.eq_38, evE.eq_39, evE.eq_40, evE.eq_41, evEs, evP, evO, evTo, evT, evAnd, evOr, evTA, evTO, evIt, evB, wp_bind, wp_nx, wp_if, wp_ok, wp_st, ok_bind, ok_nx, ok_rt, EV.R.of_some, rof_if, nxQ_nx, nxQ_rt, wp_noEx, g_0, g_s, s_0, s_s, s_t2, bb, zz, tru_bl, noEx_j, isi_list, isi_int, isi_bool, q_ll, q_llb, lenOk_of, b_add, b_sub, b_mul, b_div, b_mod, b_pow, mulOk_r, mulOk_l, divOk_of, c_lt, c_le, c_gt, c_ge, c_eq, c_ne, c_in, c_ni, dIn_dic, x_lst, x_scr, x_dic, l_lst, l_scr, l_abs, l_int, l_list, l_tup, l_sorted, l_sortedk, i_int, q_lst, q_lstp, q_b, q_bp, q_tup, q_tupp, a_app, a_put, t_0, t_s, rng_of, li_zz, li_bb, li_clean, li_z, pr_zz, pr_bb, pr_clean, pr_z, ll_zz, ll_bb, ll_cleanO, ll_cleanZ, ll_z, clean, isZ, isZs, cleans, zzs, bbs, Fl.bb, dIn_li, dEq_li, dEq_pr, dEq_ll, dEq_int, taint, taints, li_taint, pr_taint, ll_taint, Fl.tt, li_len, pr_len, ll_len, EV.keyOf, List.map_cons, List.map_nil, List.length_cons, List.length_nil, List.set_cons_zero, List.set_cons_succ, Option.map_some, t30_29, qd_bb, b1, b2, r1, r2]) rfl
  by_cases hp : pk L2 0 3 = 1
  · refine step (env' := [some s, some (.lst .z (li L2)), some (.int 2), none, none, none, none, none, none]) (by simp [evSs, evS, evE.eq_1, evE.eq_2, evE.eq_3, evE.eq_4, evE.eq_5, evE.eq_6, evE.eq_7, evE.eq_8, evE.eq_9, evE.eq_10, evE.eq_11, evE.eq_12, evE.eq_13, evE.eq_14, evE.eq_15, evE.eq_16, evE.eq_17, evE.eq_18, evE.eq_19, evE.eq_20, evE.eq_21, evE.eq_22, evE.eq_23, evE.eq_24, evE.eq_28, evE.eq_30, evE.eq_31, evE.eq_32, evE.eq_33, evE.eq_34, evE.eq_35, evE.eq_36, evE.eq_37, evE.eq_38, evE.eq_39, evE.eq_40, evE.eq_41, evEs, evP, evO, evTo, evT, evAnd, evOr, evTA, evTO, evIt, evB, wp_bind, wp_nx, wp_if, wp_ok, wp_st, ok_bind, ok_nx, ok_rt, EV.R.of_some, rof_if, nxQ_nx, nxQ_rt, wp_noEx, g_0, g_s, s_0, s_s, s_t2, bb, zz, tru_bl, noEx_j, isi_list, isi_int, isi_bool, q_ll, q_llb, lenOk_of, b_add, b_sub, b_mul, b_div, b_mod, b_pow, mulOk_r, mulOk_l, divOk_of, c_lt, c_le, c_gt, c_ge, c_eq, c_ne, c_in, c_ni, dIn_dic, x_lst, x_scr, x_dic, l_lst, l_scr, l_abs, l_int, l_list, l_tup, l_sorted, l_sortedk, i_int, q_lst, q_lstp, q_b, q_bp, q_tup, q_tupp, a_app, a_put, t_0, t_s, rng_of, li_zz, li_bb, li_clean, li_z, pr_zz, pr_bb, pr_clean, pr_z, ll_zz, ll_bb, ll_cleanO, ll_cleanZ, ll_z, clean, isZ, isZs, cleans, zzs, bbs, Fl.bb, dIn_li, dEq_li, dEq_pr, dEq_ll, dEq_int, taint, taints, li_taint, pr_taint, ll_taint, Fl.tt, li_len, pr_len, ll_len, EV.keyOf, List.map_cons, List.map_nil, List.length_cons, List.length_nil, List.set_cons_zero, List.set_cons_succ, Option.map_some, t30_2, pick_call, hp]) ?_
    exact body 2 (by decide) (by decide)
  · refine step_no (by simp [evSs, evS, evE.eq_1, evE.eq_2, evE.eq_3, evE.eq_4, evE.eq_5, evE.eq_6, evE.eq_7, evE.eq_8, evE.eq_9, evE.eq_10, evE.eq_11, evE.eq_12, evE.eq_13, evE.eq_14, evE.eq_15, evE.eq_16, evE.eq_17, evE.eq_18, evE.eq_19, evE.eq_20, evE.eq_21, evE.eq_22, evE.eq_23, evE.eq_24, evE.eq_28, evE.eq_30, evE.eq_31, evE.eq_32, evE.eq_33, evE.eq_34, evE.eq_35, evE.eq_36, evE.eq_37, evE.eq_38, evE.eq_39, evE.eq_40, evE.eq_41, evEs, evP, evO, evTo, evT, evAnd, evOr, evTA, evTO, evIt, evB, wp_bind, wp_nx, wp_if, wp_ok, wp_st, ok_bind, ok_nx, ok_rt, EV.R.of_some, rof_if, nxQ_nx, nxQ_rt, wp_noEx, g_0, g_s, s_0, s_s, s_t2, bb, zz, tru_bl, noEx_j, isi_list, isi_int, isi_bool, q_ll, q_llb, lenOk_of, b_add, b_sub, b_mul, b_div, b_mod, b_pow, mulOk_r, mulOk_l, divOk_of, c_lt, c_le, c_gt, c_ge, c_eq, c_ne, c_in, c_ni, dIn_dic, x_lst, x_scr, x_dic, l_lst, l_scr, l_abs, l_int, l_list, l_tup, l_sorted, l_sortedk, i_int, q_lst, q_lstp, q_b, q_bp, q_tup, q_tupp, a_app, a_put, t_0, t_s, rng_of, li_zz, li_bb, li_clean, li_z, pr_zz, pr_bb, pr_clean, pr_z, ll_zz, ll_bb, ll_cleanO, ll_cleanZ, ll_z, clean, isZ, isZs, cleans, zzs, bbs, Fl.bb, dIn_li, dEq_li, dEq_pr, dEq_ll, dEq_int, taint, taints, li_taint, pr_taint, ll_taint, Fl.tt, li_len, pr_len, ll_len, EV.keyOf, List.map_cons, List.map_nil, List.length_cons, List.length_nil, List.set_cons_zero, List.set_cons_succ, Option.map_some, t30_2, pick_call, hp]) ?_
    exact body 7 (by decide) (by decide)
theorem math1 (ns : List Int) (_ : ns.length ≤ 63) : (tabR cs drs 30).sem [.scr ns] = .ok (.bl true) := by
  rw [law_sem]
  exact law_ok rfl rfl fun k hk => cell_scr ns k hk
theorem math2 (ns : List Int) (_ : ns.length ≤ 63) : (tabR cs drs 30).sem [.lst .z (ns.map .int)] = .ok (.bl true) := by
  rw [law_sem]
  exact law_ok (s := .lst .z (li ns)) (by simp [isZ, li_z]) (by simp [bb, li_bb, Fl.bb]) fun k hk => cell_lst ns k hk
end K08
namespace K08
open PySem PySem.Spec PyProof.Rows L2 EV
theorem finish {w : World} {K : PySem.W.Frag} {h : Heap} {mg : Str → Option Value} {f : Addr} (X : K.In h) (G : h.Ns mainGlobals mg) (hfa : mg ("law" : Str) = some (.ref f)) (c : tx.says K) :
    ∃ fd : FuncData, (∀ (s : Shared) (v : Value), BindsTo s fd ⟨[v], []⟩ [("_law_script", v)]) ∧ ∀ base : Heap, K.In base → base.Ns mainGlobals mg → FnOk (PySem.Challenge.rw_comesapart_k08_followers_turn_at_their_p).prog w K mg base (L2N.CX (PySem.Challenge.rw_comesapart_k08_followers_turn_at_their_p).prog w) 61 f fd ["_law_script"] (EV.spLaw K) := by
  obtain ⟨f2, fd, F, m, bb, ok2⟩ := TX.law_ok (P := (PySem.Challenge.rw_comesapart_k08_followers_turn_at_their_p).prog) (w := w) X G c rfl (by decide +kernel) so bd hq ok (q0 := q30) (r := qs.tail) rfl (hot := false) rfl ⟨0, .none, none⟩
  have e := hfa.symm.trans (show mg ("law" : Str) = some (.ref f2) from m)
  cases e
  refine ⟨fd, fun s v => ?_, fun base _ _ => ?_⟩
  · obtain ⟨oc, od, kV, doc, pm, an, cdv, ct, osl, rfl, lk, hcd⟩ := F.ex
    exact .of_eq rfl
  · exact FnOk.imp (ok2 base) (EV.law_imp math1 math2)
end K08
open PySem PySem.W PySem.Calls PyProof.Rows
theorem PySem.Challenge.cw_comesapart_k08_followers_turn_at_their_p_holds : PySem.Challenge.rw_comesapart_k08_followers_turn_at_their_p.Holds := by
  w_on; o_law
  refine HandSHeadRun.head_any (r := K08.R) (q := view K08.R.prog [K08.lawAt]) (H := K08.hk) (ob := K08.ob) (M := 4000) (loose := K08.others) (d := HandSHeadRun.topDef K08.R.prog K08.lawAt) (kwd := []) K08.ob_eq
    (by kernel_rfl) (fun s => by kernel_rfl) K08.run (by kernel_rfl) (by kernel_rfl) (by kernel_rfl) (by rfl) (by first | assumption | decide +kernel) (by decide +kernel) ⟨rfl, rfl, rfl, rfl, rfl, by decide +kernel⟩ ?hw ?hc
  case hw => w_witness2
  case hc =>
    refine EV.walkW (l := PySem.Challenge.rw_comesapart_k08_followers_turn_at_their_p) (m := 63) (lv := 61) (arg := "_law_script") (C := fun w => L2N.CX (PySem.Challenge.rw_comesapart_k08_followers_turn_at_their_p).prog w) rfl (by decide) (by kernel_rfl) ⟨rfl, by decide, by decide⟩ ?F (fun _ _ _ _ _ z => EV.cx0N _ _ _ _ _ z)
    intro w mg fa h Y G hmg0
    obtain ⟨K, KX, c⟩ := Y
    have hmg : mg ("law" : PySem.Str) = some (.ref fa) := by
      have e : (HandSHeadRun.topDef K08.R.prog K08.lawAt).name = ("law" : PySem.Str) := by kernel_rfl
      rw [← e]
      exact hmg0
    obtain ⟨fd, hb, hF⟩ := K08.finish (w := w) KX G hmg c
    exact ⟨K, fd, EV.spLaw K, KX, hb, fun H a ns hl _ hS => ⟨a, ns, rfl, hS, hl, fun _ => rfl⟩, hF⟩
