import PyProof.Rows.All
import Wide.All
import OpenK.AllK
import Wide.FinOn
import HandS.ForExc
import HandS.ForMost
import HandS.IsInst
import HandS.SortInts
import HandS.DictComp
import HandS.Flow
import HandS.OwnEq
import HandS.Deep
import HandS.More
import HandS.Ends
import HandS.Head0
import HandS.Head1
import HandS.Head2
import HandS.HeadEnd
import HandS.HeadHook1
import HandS.HeadHook2
import HandS.HeadHook4
import HandS.HeadNt
import PySem.Challenge.RW_comesapart_k36_odd_pieces_and_bars
set_option Elab.async false
set_option linter.all false
set_option maxRecDepth 100000
set_option maxHeartbeats 0
namespace EV
open PySem L2
/-! ### data with marks: z shared for ever, o held here alone, b looked at only -/
inductive Fl where
  | z | o | b
  deriving DecidableEq
inductive D where
  | non | bl (b : Bool) | int (i : Int) | str (s : Str)
  | tup (ds : List D)
  | lst (f : Fl) (ds : List D)
  | scr (ns : List Int)
  | dic (f : Fl) (ks : List Key) (ds : List D)
  | dit (f : Fl) (ks : List (List Key)) (ds : List D)
  | obj (c : Addr) (ks : List Str) (ds : List D)
mutual
def zz : D → D
  | .non => .non | .bl b => .bl b | .int i => .int i | .str s => .str s | .scr ns => .scr ns
  | .tup ds => .tup (zzs ds) | .lst _ ds => .lst .z (zzs ds) | .dic _ ks ds => .dic .z ks (zzs ds) | .dit _ ks ds => .dit .z ks (zzs ds) | .obj c ks ds => .obj c ks (zzs ds)
def zzs : List D → List D
  | [] => [] | d :: ds => zz d :: zzs ds
end
def Fl.bb : Fl → Fl
  | .z => .z | _ => .b
mutual
/-- looked at: what is held elsewhere is marked b -/
def bb : D → D
  | .non => .non | .bl b => .bl b | .int i => .int i | .str s => .str s | .scr ns => .scr ns
  | .tup ds => .tup (bbs ds) | .lst f ds => .lst f.bb (bbs ds) | .dic f ks ds => .dic f.bb ks (bbs ds) | .dit f ks ds => .dit f.bb ks (bbs ds) | .obj c ks ds => .obj c ks (bbs ds)
def bbs : List D → List D
  | [] => [] | d :: ds => bb d :: bbs ds
end
def Fl.tt : Fl → Fl
  | .o => .o | _ => .b
mutual
/-- what a def handed back that looked at held things: its shared lists may be those -/
def taint : D → D
  | .non => .non | .bl b => .bl b | .int i => .int i | .str s => .str s | .scr ns => .scr ns
  | .tup ds => .tup (taints ds) | .lst f ds => .lst f.tt (taints ds) | .dic f ks ds => .dic f.tt ks (taints ds) | .dit f ks ds => .dit f.tt ks (taints ds) | .obj c ks ds => .obj c ks (taints ds)
def taints : List D → List D
  | [] => [] | d :: ds => taint d :: taints ds
end
mutual
def clean : D → Bool
  | .non => true | .bl _ => true | .int _ => true | .str _ => true | .scr _ => true
  | .tup ds => cleans ds | .lst f ds => decide (f ≠ .b) && cleans ds | .dic f _ ds => decide (f ≠ .b) && cleans ds | .dit f _ ds => decide (f ≠ .b) && cleans ds | .obj _ _ ds => cleans ds
def cleans : List D → Bool
  | [] => true | d :: ds => clean d && cleans ds
end
mutual
def isZ : D → Bool
  | .non => true | .bl _ => true | .int _ => true | .str _ => true | .scr _ => true
  | .tup ds => isZs ds | .lst f ds => decide (f = .z) && isZs ds | .dic f _ ds => decide (f = .z) && isZs ds | .dit f _ ds => decide (f = .z) && isZs ds | .obj _ _ ds => isZs ds
def isZs : List D → Bool
  | [] => true | d :: ds => isZ d && isZs ds
end

/-! ### how data stands in the heap -/
theorem Same.seqT {K : PySem.W.Frag} {H H' : Hp} {a : Addr} {xs : List V} (e : Same H H') (h : SqT K H a xs) : SqT K H' a xs := by
  rcases h with (h | ⟨o, h⟩) | h
  · exact .inl (.inl (e _ _ h))
  · exact .inl (.inr ⟨o, e _ _ h⟩)
  · exact .inr h
theorem Same.rd {H H' : Hp} {a : Addr} {o : HO} (e : Same H H') (h : Rd H a o) : Rd H' a o := by
  rcases h with h | ⟨u, h⟩
  · exact .inl (e _ _ h)
  · exact .inr ⟨u, e _ _ h⟩
/-- the script: it stands locked, or with the text's own objects -/
def Scr (K : PySem.W.Frag) (S : Hp) (a : Addr) (ns : List Int) : Prop := (∃ o, S a = some (.frz o (.lst (ns.map V.int)))) ∨ ∀ H : Hp, SqL K H a (ns.map V.int)
theorem Scr.seq {K : PySem.W.Frag} {S : Hp} {a : Addr} {ns : List Int} (h : Scr K S a ns) : SqL K S a (ns.map V.int) := by
  rcases h with ⟨o, h⟩ | h
  · exact .inl (.inr ⟨o, h⟩)
  · exact h S
theorem Scr.same {K : PySem.W.Frag} {S S' : Hp} {a : Addr} {ns : List Int} (h : Scr K S a ns) (s : Same S S') : Scr K S' a ns := by
  rcases h with ⟨o, h⟩ | h
  · exact .inl ⟨o, s _ _ h⟩
  · exact .inr h
/-- keys beside their values, none twice -/
def KL {κ α : Type} (ks : List κ) (vs : List α) : Prop := ks.length = vs.length ∧ ks.Nodup
section
variable (K : PySem.W.Frag) (S H : Hp)
mutual
def Own : D → V → List Addr → Prop
  | .non, v, B => v = .non ∧ B = []
  | .bl b, v, B => v = .bl b ∧ B = []
  | .int i, v, B => v = .int i ∧ B = []
  | .str s, v, B => v = .str s ∧ B = []
  | .scr ns, v, B => B = [] ∧ ∃ a, v = .ref a ∧ Scr K S a ns
  | .tup ds, v, B => B = [] ∧ ∃ a vs, v = .ref a ∧ S a = some (.tup vs) ∧ Owns ds vs []
  | .lst .z ds, v, B => B = [] ∧ ∃ a vs, v = .ref a ∧ S a = some (.lst vs) ∧ Owns ds vs []
  | .lst .b ds, v, B => B = [] ∧ ∃ a vs, v = .ref a ∧ H a = some (.lst vs) ∧ Owns ds vs []
  | .lst .o ds, v, B => ∃ p vs B', v = .ref p ∧ B = p :: B' ∧ H p = some (.lst vs) ∧ Owns ds vs B'
  | .dic .z ks ds, v, B => B = [] ∧ ∃ a vs, v = .ref a ∧ Rd S a (.dK (ks.zip vs)) ∧ KL ks vs ∧ Owns ds vs []
  | .dic .b ks ds, v, B => B = [] ∧ ∃ a vs, v = .ref a ∧ Rd H a (.dK (ks.zip vs)) ∧ KL ks vs ∧ Owns ds vs []
  | .dic .o ks ds, v, B => ∃ p vs B', v = .ref p ∧ B = p :: B' ∧ H p = some (.dK (ks.zip vs)) ∧ KL ks vs ∧ Owns ds vs B'
  | .dit .z ks ds, v, B => B = [] ∧ ∃ a vs, v = .ref a ∧ Rd S a (.dT (ks.zip vs)) ∧ KL ks vs ∧ Owns ds vs []
  | .dit .b ks ds, v, B => B = [] ∧ ∃ a vs, v = .ref a ∧ Rd H a (.dT (ks.zip vs)) ∧ KL ks vs ∧ Owns ds vs []
  | .dit .o ks ds, v, B => ∃ p vs B', v = .ref p ∧ B = p :: B' ∧ H p = some (.dT (ks.zip vs)) ∧ KL ks vs ∧ Owns ds vs B'
  | .obj c ks ds, v, B => B = [] ∧ ∃ a dx vs, v = .ref a ∧ S a = some (.ins c dx (ks.zip vs)) ∧ KL ks vs ∧ Owns ds vs []
def Owns : List D → List V → List Addr → Prop
  | [], vs, B => vs = [] ∧ B = []
  | d :: ds, vs, B => ∃ v vs' B1 B2, vs = v :: vs' ∧ B = B1 ++ B2 ∧ Own d v B1 ∧ Owns ds vs' B2
end
end
variable {K : PySem.W.Frag} {S S' H H' : Hp}
mutual
/-- the heap may grow; held objects stand as they stood -/
theorem Own.keep (hS : Same S S') : ∀ (d : D) (v : V) (B : List Addr), (clean d = true ∨ Same H H') → (∀ p ∈ B, H' p = H p) → Own K S H d v B → Own K S' H' d v B
  | .non, v, B, _, _, h => h
  | .bl _, v, B, _, _, h => h
  | .int _, v, B, _, _, h => h
  | .str _, v, B, _, _, h => h
  | .scr _, v, B, _, _, h => ⟨h.1, h.2.imp fun _ q => ⟨q.1, q.2.same hS⟩⟩
  | .tup ds, v, B, c, k, h => by
    obtain ⟨e, a, vs, ev, q, r⟩ := h
    exact ⟨e, a, vs, ev, hS _ _ q, Owns.keep hS ds vs [] (c.imp (fun c => by simpa [clean] using c) id) (fun _ z => nomatch z) r⟩
  | .lst .z ds, v, B, c, k, h => by
    obtain ⟨e, a, vs, ev, q, r⟩ := h
    exact ⟨e, a, vs, ev, hS _ _ q, Owns.keep hS ds vs [] (c.imp (fun c => by simpa [clean] using c) id) (fun _ z => nomatch z) r⟩
  | .lst .b ds, v, B, c, k, h => by
    obtain ⟨e, a, vs, ev, q, r⟩ := h
    rcases c with c | c
    · simp [clean] at c
    · exact ⟨e, a, vs, ev, c _ _ q, Owns.keep hS ds vs [] (.inr c) (fun _ z => nomatch z) r⟩
  | .lst .o ds, v, B, c, k, h => by
    obtain ⟨p, vs, B', ev, e, q, r⟩ := h
    subst e
    exact ⟨p, vs, B', ev, rfl, (k p (by simp)).trans q, Owns.keep hS ds vs B' (c.imp (fun c => by simpa [clean] using c) id) (fun a z => k a (by simp [z])) r⟩
  | .dic .z ks ds, v, B, c, k, h => by
    obtain ⟨e, a, vs, ev, q, l, r⟩ := h
    exact ⟨e, a, vs, ev, Same.rd hS q, l, Owns.keep hS ds vs [] (c.imp (fun c => by simpa [clean] using c) id) (fun _ z => nomatch z) r⟩
  | .dic .b ks ds, v, B, c, k, h => by
    obtain ⟨e, a, vs, ev, q, l, r⟩ := h
    rcases c with c | c
    · simp [clean] at c
    · exact ⟨e, a, vs, ev, Same.rd c q, l, Owns.keep hS ds vs [] (.inr c) (fun _ z => nomatch z) r⟩
  | .dic .o ks ds, v, B, c, k, h => by
    obtain ⟨p, vs, B', ev, e, q, l, r⟩ := h
    subst e
    exact ⟨p, vs, B', ev, rfl, (k p (by simp)).trans q, l, Owns.keep hS ds vs B' (c.imp (fun c => by simpa [clean] using c) id) (fun a z => k a (by simp [z])) r⟩
  | .dit .z ks ds, v, B, c, k, h => by
    obtain ⟨e, a, vs, ev, q, l, r⟩ := h
    exact ⟨e, a, vs, ev, Same.rd hS q, l, Owns.keep hS ds vs [] (c.imp (fun c => by simpa [clean] using c) id) (fun _ z => nomatch z) r⟩
  | .dit .b ks ds, v, B, c, k, h => by
    obtain ⟨e, a, vs, ev, q, l, r⟩ := h
    rcases c with c | c
    · simp [clean] at c
    · exact ⟨e, a, vs, ev, Same.rd c q, l, Owns.keep hS ds vs [] (.inr c) (fun _ z => nomatch z) r⟩
  | .dit .o ks ds, v, B, c, k, h => by
    obtain ⟨p, vs, B', ev, e, q, l, r⟩ := h
    subst e
    exact ⟨p, vs, B', ev, rfl, (k p (by simp)).trans q, l, Owns.keep hS ds vs B' (c.imp (fun c => by simpa [clean] using c) id) (fun a z => k a (by simp [z])) r⟩
  | .obj c0 ks ds, v, B, c, k, h => by
    obtain ⟨e, a, dx, vs, ev, q, l, r⟩ := h
    exact ⟨e, a, dx, vs, ev, hS _ _ q, l, Owns.keep hS ds vs [] (c.imp (fun c => by simpa [clean] using c) id) (fun _ z => nomatch z) r⟩
theorem Owns.keep (hS : Same S S') : ∀ (ds : List D) (vs : List V) (B : List Addr), (cleans ds = true ∨ Same H H') → (∀ p ∈ B, H' p = H p) → Owns K S H ds vs B → Owns K S' H' ds vs B
  | [], vs, B, _, _, h => h
  | d :: ds, vs, B, c, k, h => by
    obtain ⟨v, vs', B1, B2, e1, e2, r, rs⟩ := h
    subst e2
    exact ⟨v, vs', B1, B2, e1, rfl, Own.keep hS d v B1 (c.imp (fun c => by simp [cleans] at c; exact c.1) id) (fun a z => k a (by simp [z])) r,
      Owns.keep hS ds vs' B2 (c.imp (fun c => by simp [cleans] at c; exact c.2) id) (fun a z => k a (by simp [z])) rs⟩
end
mutual
/-- what is held is there -/
theorem Own.there : ∀ (d : D) (v : V) (B : List Addr), Own K S H d v B → ∀ p ∈ B, (∃ xs, H p = some (.lst xs)) ∨ (∃ kvs, H p = some (.dK kvs)) ∨ ∃ kvs, H p = some (.dT kvs)
  | .non, v, B, h => by obtain ⟨_, rfl⟩ := h; simp
  | .bl _, v, B, h => by obtain ⟨_, rfl⟩ := h; simp
  | .int _, v, B, h => by obtain ⟨_, rfl⟩ := h; simp
  | .str _, v, B, h => by obtain ⟨_, rfl⟩ := h; simp
  | .scr _, v, B, h => by obtain ⟨rfl, _⟩ := h; simp
  | .tup ds, v, B, h => by obtain ⟨rfl, _⟩ := h; simp
  | .lst .z ds, v, B, h => by obtain ⟨rfl, _⟩ := h; simp
  | .lst .b ds, v, B, h => by obtain ⟨rfl, _⟩ := h; simp
  | .lst .o ds, v, B, h => by
    obtain ⟨p, vs, B', ev, e, q, r⟩ := h
    subst e
    intro a ha
    rcases List.mem_cons.mp ha with rfl | ha
    · exact .inl ⟨_, q⟩
    · exact Owns.there ds vs B' r a ha
  | .dic .z ks ds, v, B, h => by obtain ⟨rfl, _⟩ := h; simp
  | .dic .b ks ds, v, B, h => by obtain ⟨rfl, _⟩ := h; simp
  | .dic .o ks ds, v, B, h => by
    obtain ⟨p, vs, B', ev, e, q, l, r⟩ := h
    subst e
    intro a ha
    rcases List.mem_cons.mp ha with rfl | ha
    · exact .inr (.inl ⟨_, q⟩)
    · exact Owns.there ds vs B' r a ha
  | .dit .z ks ds, v, B, h => by obtain ⟨rfl, _⟩ := h; simp
  | .dit .b ks ds, v, B, h => by obtain ⟨rfl, _⟩ := h; simp
  | .dit .o ks ds, v, B, h => by
    obtain ⟨p, vs, B', ev, e, q, l, r⟩ := h
    subst e
    intro a ha
    rcases List.mem_cons.mp ha with rfl | ha
    · exact .inr (.inr ⟨_, q⟩)
    · exact Owns.there ds vs B' r a ha
  | .obj _ ks ds, v, B, h => by obtain ⟨rfl, _⟩ := h; simp
theorem Owns.there : ∀ (ds : List D) (vs : List V) (B : List Addr), Owns K S H ds vs B → ∀ p ∈ B, (∃ xs, H p = some (.lst xs)) ∨ (∃ kvs, H p = some (.dK kvs)) ∨ ∃ kvs, H p = some (.dT kvs)
  | [], vs, B, h => by obtain ⟨_, rfl⟩ := h; simp
  | d :: ds, vs, B, h => by
    obtain ⟨v, vs', B1, B2, e1, e2, r, rs⟩ := h
    subst e2
    intro a ha
    rcases List.mem_append.mp ha with ha | ha
    · exact Own.there d v B1 r a ha
    · exact Owns.there ds vs' B2 rs a ha
end
mutual
/-- shared from now on -/
theorem Own.freeze (hS : Same S S') : ∀ (d : D) (v : V) (B : List Addr), clean d = true → (∀ p ∈ B, S' p = H p) → Own K S H d v B → Own K S' H' (zz d) v []
  | .non, v, B, c, k, h => ⟨h.1, rfl⟩
  | .bl _, v, B, c, k, h => ⟨h.1, rfl⟩
  | .int _, v, B, c, k, h => ⟨h.1, rfl⟩
  | .str _, v, B, c, k, h => ⟨h.1, rfl⟩
  | .scr _, v, B, c, k, h => ⟨rfl, h.2.imp fun _ q => ⟨q.1, q.2.same hS⟩⟩
  | .tup ds, v, B, c, k, h => by
    obtain ⟨e, a, vs, ev, q, r⟩ := h
    exact ⟨rfl, a, vs, ev, hS _ _ q, Owns.freeze hS ds vs [] (by simpa [clean] using c) (fun _ z => nomatch z) r⟩
  | .lst .z ds, v, B, c, k, h => by
    obtain ⟨e, a, vs, ev, q, r⟩ := h
    exact ⟨rfl, a, vs, ev, hS _ _ q, Owns.freeze hS ds vs [] (by simpa [clean] using c) (fun _ z => nomatch z) r⟩
  | .lst .b ds, v, B, c, k, h => by simp [clean] at c
  | .lst .o ds, v, B, c, k, h => by
    obtain ⟨p, vs, B', ev, e, q, r⟩ := h
    subst e
    exact ⟨rfl, p, vs, ev, (k p (by simp)).trans q, Owns.freeze hS ds vs B' (by simpa [clean] using c) (fun a z => k a (by simp [z])) r⟩
  | .dic .z ks ds, v, B, c, k, h => by
    obtain ⟨e, a, vs, ev, q, l, r⟩ := h
    exact ⟨rfl, a, vs, ev, Same.rd hS q, l, Owns.freeze hS ds vs [] (by simpa [clean] using c) (fun _ z => nomatch z) r⟩
  | .dic .b ks ds, v, B, c, k, h => by simp [clean] at c
  | .dic .o ks ds, v, B, c, k, h => by
    obtain ⟨p, vs, B', ev, e, q, l, r⟩ := h
    subst e
    exact ⟨rfl, p, vs, ev, .inl ((k p (by simp)).trans q), l, Owns.freeze hS ds vs B' (by simpa [clean] using c) (fun a z => k a (by simp [z])) r⟩
  | .dit .z ks ds, v, B, c, k, h => by
    obtain ⟨e, a, vs, ev, q, l, r⟩ := h
    exact ⟨rfl, a, vs, ev, Same.rd hS q, l, Owns.freeze hS ds vs [] (by simpa [clean] using c) (fun _ z => nomatch z) r⟩
  | .dit .b ks ds, v, B, c, k, h => by simp [clean] at c
  | .dit .o ks ds, v, B, c, k, h => by
    obtain ⟨p, vs, B', ev, e, q, l, r⟩ := h
    subst e
    exact ⟨rfl, p, vs, ev, .inl ((k p (by simp)).trans q), l, Owns.freeze hS ds vs B' (by simpa [clean] using c) (fun a z => k a (by simp [z])) r⟩
  | .obj c0 ks ds, v, B, c, k, h => by
    obtain ⟨e, a, dx, vs, ev, q, l, r⟩ := h
    exact ⟨rfl, a, dx, vs, ev, hS _ _ q, l, Owns.freeze hS ds vs [] (by simpa [clean] using c) (fun _ z => nomatch z) r⟩
theorem Owns.freeze (hS : Same S S') : ∀ (ds : List D) (vs : List V) (B : List Addr), cleans ds = true → (∀ p ∈ B, S' p = H p) → Owns K S H ds vs B → Owns K S' H' (zzs ds) vs []
  | [], vs, B, c, k, h => ⟨h.1, rfl⟩
  | d :: ds, vs, B, c, k, h => by
    obtain ⟨v, vs', B1, B2, e1, e2, r, rs⟩ := h
    subst e2
    simp [cleans] at c
    exact ⟨v, vs', [], [], e1, rfl, Own.freeze hS d v B1 c.1 (fun a z => k a (by simp [z])) r, Owns.freeze hS ds vs' B2 c.2 (fun a z => k a (by simp [z])) rs⟩
end
mutual
/-- looked at -/
theorem Own.borrow (hS : Same S H) : ∀ (d : D) (v : V) (B : List Addr), Own K S H d v B → Own K S H (bb d) v []
  | .non, v, B, h => ⟨h.1, rfl⟩
  | .bl _, v, B, h => ⟨h.1, rfl⟩
  | .int _, v, B, h => ⟨h.1, rfl⟩
  | .str _, v, B, h => ⟨h.1, rfl⟩
  | .scr _, v, B, h => ⟨rfl, h.2⟩
  | .tup ds, v, B, h => by
    obtain ⟨e, a, vs, ev, q, r⟩ := h
    exact ⟨rfl, a, vs, ev, q, Owns.borrow hS ds vs [] r⟩
  | .lst .z ds, v, B, h => by
    obtain ⟨e, a, vs, ev, q, r⟩ := h
    exact ⟨rfl, a, vs, ev, q, Owns.borrow hS ds vs [] r⟩
  | .lst .b ds, v, B, h => by
    obtain ⟨e, a, vs, ev, q, r⟩ := h
    exact ⟨rfl, a, vs, ev, q, Owns.borrow hS ds vs [] r⟩
  | .lst .o ds, v, B, h => by
    obtain ⟨p, vs, B', ev, e, q, r⟩ := h
    exact ⟨rfl, p, vs, ev, q, Owns.borrow hS ds vs B' r⟩
  | .dic .z ks ds, v, B, h => by
    obtain ⟨e, a, vs, ev, q, l, r⟩ := h
    exact ⟨rfl, a, vs, ev, q, l, Owns.borrow hS ds vs [] r⟩
  | .dic .b ks ds, v, B, h => by
    obtain ⟨e, a, vs, ev, q, l, r⟩ := h
    exact ⟨rfl, a, vs, ev, q, l, Owns.borrow hS ds vs [] r⟩
  | .dic .o ks ds, v, B, h => by
    obtain ⟨p, vs, B', ev, e, q, l, r⟩ := h
    exact ⟨rfl, p, vs, ev, .inl q, l, Owns.borrow hS ds vs B' r⟩
  | .dit .z ks ds, v, B, h => by
    obtain ⟨e, a, vs, ev, q, l, r⟩ := h
    exact ⟨rfl, a, vs, ev, q, l, Owns.borrow hS ds vs [] r⟩
  | .dit .b ks ds, v, B, h => by
    obtain ⟨e, a, vs, ev, q, l, r⟩ := h
    exact ⟨rfl, a, vs, ev, q, l, Owns.borrow hS ds vs [] r⟩
  | .dit .o ks ds, v, B, h => by
    obtain ⟨p, vs, B', ev, e, q, l, r⟩ := h
    exact ⟨rfl, p, vs, ev, .inl q, l, Owns.borrow hS ds vs B' r⟩
  | .obj c0 ks ds, v, B, h => by
    obtain ⟨e, a, dx, vs, ev, q, l, r⟩ := h
    exact ⟨rfl, a, dx, vs, ev, q, l, Owns.borrow hS ds vs [] r⟩
theorem Owns.borrow (hS : Same S H) : ∀ (ds : List D) (vs : List V) (B : List Addr), Owns K S H ds vs B → Owns K S H (bbs ds) vs []
  | [], vs, B, h => ⟨h.1, rfl⟩
  | d :: ds, vs, B, h => by
    obtain ⟨v, vs', B1, B2, e1, e2, r, rs⟩ := h
    exact ⟨v, vs', [], [], e1, rfl, Own.borrow hS d v B1 r, Owns.borrow hS ds vs' B2 rs⟩
end
mutual
/-- as a callee sees it: all is shared, in the whole heap -/
theorem Own.view (hS : Same S H) : ∀ (d : D) (v : V) (B : List Addr), Own K S H d v B → Own K H H (zz d) v []
  | .non, v, B, h => ⟨h.1, rfl⟩
  | .bl _, v, B, h => ⟨h.1, rfl⟩
  | .int _, v, B, h => ⟨h.1, rfl⟩
  | .str _, v, B, h => ⟨h.1, rfl⟩
  | .scr _, v, B, h => ⟨rfl, h.2.imp fun _ q => ⟨q.1, q.2.same hS⟩⟩
  | .tup ds, v, B, h => by
    obtain ⟨e, a, vs, ev, q, r⟩ := h
    exact ⟨rfl, a, vs, ev, hS _ _ q, Owns.view hS ds vs [] r⟩
  | .lst .z ds, v, B, h => by
    obtain ⟨e, a, vs, ev, q, r⟩ := h
    exact ⟨rfl, a, vs, ev, hS _ _ q, Owns.view hS ds vs [] r⟩
  | .lst .b ds, v, B, h => by
    obtain ⟨e, a, vs, ev, q, r⟩ := h
    exact ⟨rfl, a, vs, ev, q, Owns.view hS ds vs [] r⟩
  | .lst .o ds, v, B, h => by
    obtain ⟨p, vs, B', ev, e, q, r⟩ := h
    exact ⟨rfl, p, vs, ev, q, Owns.view hS ds vs B' r⟩
  | .dic .z ks ds, v, B, h => by
    obtain ⟨e, a, vs, ev, q, l, r⟩ := h
    exact ⟨rfl, a, vs, ev, Same.rd hS q, l, Owns.view hS ds vs [] r⟩
  | .dic .b ks ds, v, B, h => by
    obtain ⟨e, a, vs, ev, q, l, r⟩ := h
    exact ⟨rfl, a, vs, ev, q, l, Owns.view hS ds vs [] r⟩
  | .dic .o ks ds, v, B, h => by
    obtain ⟨p, vs, B', ev, e, q, l, r⟩ := h
    exact ⟨rfl, p, vs, ev, .inl q, l, Owns.view hS ds vs B' r⟩
  | .dit .z ks ds, v, B, h => by
    obtain ⟨e, a, vs, ev, q, l, r⟩ := h
    exact ⟨rfl, a, vs, ev, Same.rd hS q, l, Owns.view hS ds vs [] r⟩
  | .dit .b ks ds, v, B, h => by
    obtain ⟨e, a, vs, ev, q, l, r⟩ := h
    exact ⟨rfl, a, vs, ev, q, l, Owns.view hS ds vs [] r⟩
  | .dit .o ks ds, v, B, h => by
    obtain ⟨p, vs, B', ev, e, q, l, r⟩ := h
    exact ⟨rfl, p, vs, ev, .inl q, l, Owns.view hS ds vs B' r⟩
  | .obj c0 ks ds, v, B, h => by
    obtain ⟨e, a, dx, vs, ev, q, l, r⟩ := h
    exact ⟨rfl, a, dx, vs, ev, hS _ _ q, l, Owns.view hS ds vs [] r⟩
theorem Owns.view (hS : Same S H) : ∀ (ds : List D) (vs : List V) (B : List Addr), Owns K S H ds vs B → Owns K H H (zzs ds) vs []
  | [], vs, B, h => ⟨h.1, rfl⟩
  | d :: ds, vs, B, h => by
    obtain ⟨v, vs', B1, B2, e1, e2, r, rs⟩ := h
    exact ⟨v, vs', [], [], e1, rfl, Own.view hS d v B1 r, Owns.view hS ds vs' B2 rs⟩
end
/-- what never changes: tuples, instances that are shared -/
def Imm : HO → Prop
  | .tup _ => True
  | .ins _ _ _ => True
  | .frz _ (.tup _) => True
  | .frz _ (.lst _) => True
  | _ => False
mutual
/-- handed back by a callee that saw S' : only what is fresh there, and what never changes, is kept in S -/
theorem Own.taint (hI : ∀ a o, S' a = some o → Imm o → S a = some o) (hH : Same S' H) : ∀ (d : D) (v : V) (B : List Addr), Own K S' H d v B → Own K S H (taint d) v B
  | .non, v, B, h => h
  | .bl _, v, B, h => h
  | .int _, v, B, h => h
  | .str _, v, B, h => h
  | .scr ns, v, B, h => by
    obtain ⟨e, a, ev, q⟩ := h
    refine ⟨e, a, ev, ?_⟩
    rcases q with ⟨o, q⟩ | q
    · exact .inl ⟨o, hI _ _ q trivial⟩
    · exact .inr q
  | .tup ds, v, B, h => by
    obtain ⟨e, a, vs, ev, q, r⟩ := h
    exact ⟨e, a, vs, ev, hI _ _ q trivial, Owns.taint hI hH ds vs [] r⟩
  | .lst .z ds, v, B, h => by
    obtain ⟨e, a, vs, ev, q, r⟩ := h
    exact ⟨e, a, vs, ev, hH _ _ q, Owns.taint hI hH ds vs [] r⟩
  | .lst .b ds, v, B, h => by
    obtain ⟨e, a, vs, ev, q, r⟩ := h
    exact ⟨e, a, vs, ev, q, Owns.taint hI hH ds vs [] r⟩
  | .lst .o ds, v, B, h => by
    obtain ⟨p, vs, B', ev, e, q, r⟩ := h
    exact ⟨p, vs, B', ev, e, q, Owns.taint hI hH ds vs B' r⟩
  | .dic .z ks ds, v, B, h => by
    obtain ⟨e, a, vs, ev, q, l, r⟩ := h
    exact ⟨e, a, vs, ev, Same.rd hH q, l, Owns.taint hI hH ds vs [] r⟩
  | .dic .b ks ds, v, B, h => by
    obtain ⟨e, a, vs, ev, q, l, r⟩ := h
    exact ⟨e, a, vs, ev, q, l, Owns.taint hI hH ds vs [] r⟩
  | .dic .o ks ds, v, B, h => by
    obtain ⟨p, vs, B', ev, e, q, l, r⟩ := h
    exact ⟨p, vs, B', ev, e, q, l, Owns.taint hI hH ds vs B' r⟩
  | .dit .z ks ds, v, B, h => by
    obtain ⟨e, a, vs, ev, q, l, r⟩ := h
    exact ⟨e, a, vs, ev, Same.rd hH q, l, Owns.taint hI hH ds vs [] r⟩
  | .dit .b ks ds, v, B, h => by
    obtain ⟨e, a, vs, ev, q, l, r⟩ := h
    exact ⟨e, a, vs, ev, q, l, Owns.taint hI hH ds vs [] r⟩
  | .dit .o ks ds, v, B, h => by
    obtain ⟨p, vs, B', ev, e, q, l, r⟩ := h
    exact ⟨p, vs, B', ev, e, q, l, Owns.taint hI hH ds vs B' r⟩
  | .obj c0 ks ds, v, B, h => by
    obtain ⟨e, a, dx, vs, ev, q, l, r⟩ := h
    exact ⟨e, a, dx, vs, ev, hI _ _ q trivial, l, Owns.taint hI hH ds vs [] r⟩
theorem Owns.taint (hI : ∀ a o, S' a = some o → Imm o → S a = some o) (hH : Same S' H) : ∀ (ds : List D) (vs : List V) (B : List Addr), Owns K S' H ds vs B → Owns K S H (taints ds) vs B
  | [], vs, B, h => h
  | d :: ds, vs, B, h => by
    obtain ⟨v, vs', B1, B2, e1, e2, r, rs⟩ := h
    exact ⟨v, vs', B1, B2, e1, e2, Own.taint hI hH d v B1 r, Owns.taint hI hH ds vs' B2 rs⟩
end
mutual
/-- all shared: nothing is held, and only S is asked -/
theorem Own.ofZ : ∀ (d : D) (v : V) (B : List Addr), isZ d = true → Own K S H d v B → B = [] ∧ Own K S H' d v []
  | .non, v, B, z, h => ⟨h.2, h.1, rfl⟩
  | .bl _, v, B, z, h => ⟨h.2, h.1, rfl⟩
  | .int _, v, B, z, h => ⟨h.2, h.1, rfl⟩
  | .str _, v, B, z, h => ⟨h.2, h.1, rfl⟩
  | .scr _, v, B, z, h => ⟨h.1, rfl, h.2⟩
  | .tup ds, v, B, z, h => by
    obtain ⟨e, a, vs, ev, q, r⟩ := h
    exact ⟨e, rfl, a, vs, ev, q, (Owns.ofZ ds vs [] (by simpa [isZ] using z) r).2⟩
  | .lst .z ds, v, B, z, h => by
    obtain ⟨e, a, vs, ev, q, r⟩ := h
    exact ⟨e, rfl, a, vs, ev, q, (Owns.ofZ ds vs [] (by simpa [isZ] using z) r).2⟩
  | .lst .b ds, v, B, z, h => by simp [isZ] at z
  | .lst .o ds, v, B, z, h => by simp [isZ] at z
  | .dic .z ks ds, v, B, z, h => by
    obtain ⟨e, a, vs, ev, q, l, r⟩ := h
    exact ⟨e, rfl, a, vs, ev, q, l, (Owns.ofZ ds vs [] (by simpa [isZ] using z) r).2⟩
  | .dic .b ks ds, v, B, z, h => by simp [isZ] at z
  | .dic .o ks ds, v, B, z, h => by simp [isZ] at z
  | .dit .z ks ds, v, B, z, h => by
    obtain ⟨e, a, vs, ev, q, l, r⟩ := h
    exact ⟨e, rfl, a, vs, ev, q, l, (Owns.ofZ ds vs [] (by simpa [isZ] using z) r).2⟩
  | .dit .b ks ds, v, B, z, h => by simp [isZ] at z
  | .dit .o ks ds, v, B, z, h => by simp [isZ] at z
  | .obj c0 ks ds, v, B, z, h => by
    obtain ⟨e, a, dx, vs, ev, q, l, r⟩ := h
    exact ⟨e, rfl, a, dx, vs, ev, q, l, (Owns.ofZ ds vs [] (by simpa [isZ] using z) r).2⟩
theorem Owns.ofZ : ∀ (ds : List D) (vs : List V) (B : List Addr), isZs ds = true → Owns K S H ds vs B → B = [] ∧ Owns K S H' ds vs []
  | [], vs, B, z, h => ⟨h.2, h.1, rfl⟩
  | d :: ds, vs, B, z, h => by
    obtain ⟨v, vs', B1, B2, e1, e2, r, rs⟩ := h
    simp [isZs] at z
    obtain ⟨rfl, r'⟩ := Own.ofZ d v B1 z.1 r
    obtain ⟨rfl, rs'⟩ := Owns.ofZ ds vs' B2 z.2 rs
    exact ⟨e2, v, vs', [], [], e1, rfl, r', rs'⟩
end
theorem Owns.length : ∀ (ds : List D) (vs : List V) (B : List Addr), Owns K S H ds vs B → ds.length = vs.length
  | [], vs, B, h => by rw [h.1]; rfl
  | d :: ds, vs, B, h => by
    obtain ⟨v, vs', B1, B2, e1, e2, r, rs⟩ := h
    rw [e1, List.length_cons, List.length_cons, Owns.length ds vs' B2 rs]
theorem Owns.append : ∀ (ds : List D) (vs : List V) (B : List Addr) (es : List D) (us : List V) (C : List Addr), Owns K S H ds vs B → Owns K S H es us C → Owns K S H (ds ++ es) (vs ++ us) (B ++ C)
  | [], vs, B, es, us, C, h, h' => by obtain ⟨rfl, rfl⟩ := h; exact h'
  | d :: ds, vs, B, es, us, C, h, h' => by
    obtain ⟨v, vs', B1, B2, e1, e2, r, rs⟩ := h
    subst e1 e2
    exact ⟨v, vs' ++ us, B1, B2 ++ C, rfl, by simp, r, Owns.append ds vs' B2 es us C rs h'⟩
theorem Owns.one {d : D} {v : V} {B : List Addr} (h : Own K S H d v B) : Owns K S H [d] [v] B := ⟨v, [], B, [], rfl, by simp, h, rfl, rfl⟩
/-- the item at a place -/
theorem Owns.get : ∀ (ds : List D) (vs : List V) (B : List Addr) (i : Nat) (d : D), Owns K S H ds vs B → ds[i]? = some d → ∃ v B1 B2 B3, vs[i]? = some v ∧ B = B1 ++ B2 ++ B3 ∧ Own K S H d v B2
  | [], vs, B, i, d, h, e => by simp at e
  | d0 :: ds, vs, B, 0, d, h, e => by
    obtain ⟨v, vs', B1, B2, e1, e2, r, rs⟩ := h
    simp at e
    subst e e1 e2
    exact ⟨v, [], B1, B2, rfl, by simp, r⟩
  | d0 :: ds, vs, B, i + 1, d, h, e => by
    obtain ⟨v, vs', B1, B2, e1, e2, r, rs⟩ := h
    obtain ⟨u, C1, C2, C3, q1, q2, q3⟩ := Owns.get ds vs' B2 i d rs (by simpa using e)
    subst e1 e2 q2
    exact ⟨u, B1 ++ C1, C2, C3, by simpa using q1, by simp, q3⟩
end EV
namespace EV
open PySem L2
/-! ### results -/
structure Exc where
  c : Addr
  ds : List D
inductive R (α : Type) where
  | ok (a : α) | ex (x : Exc) | st
def R.bind {α β : Type} : R α → (α → R β) → R β
  | .ok a, f => f a | .ex x, _ => .ex x | .st, _ => .st
instance : Monad R where
  pure := R.ok
  bind := R.bind
@[simp] theorem R.ok_bind {α β : Type} (a : α) (f : α → R β) : (R.ok a >>= f) = f a := rfl
@[simp] theorem R.ex_bind {α β : Type} (x : Exc) (f : α → R β) : (R.ex x >>= f) = R.ex x := rfl
@[simp] theorem R.st_bind {α β : Type} (f : α → R β) : ((R.st : R α) >>= f) = R.st := rfl
@[simp] theorem R.pure_eq {α : Type} (a : α) : (pure a : R α) = R.ok a := rfl
def R.of {α : Type} : Option α → R α
  | some a => .ok a | none => .st
@[simp] theorem R.of_some {α : Type} (a : α) : R.of (some a) = .ok a := rfl
def guardR (b : Bool) : R Unit := if b = true then .ok () else .st
@[simp] theorem guardR_t : guardR true = .ok () := rfl

/-! ### operations on data -/
abbrev Env := List (Option D)
mutual
def toP : D → Option PyData
  | .non => some .none | .bl b => some (.bool b) | .int i => some (.int i) | .str s => some (.str s)
  | .tup ds => (toPs ds).map .tuple | .lst _ ds => (toPs ds).map .list
  | _ => none
def toPs : List D → Option (List PyData)
  | [] => some []
  | d :: ds => match toP d, toPs ds with
    | some p, some ps => some (p :: ps)
    | _, _ => none
end
def memK {κ : Type} [DecidableEq κ] (q : κ) (ks : List κ) : Bool := decide (q ∈ ks)
def lookK {κ α : Type} [DecidableEq κ] : List κ → List α → κ → Option α
  | k :: ks, d :: ds, q => if k = q then some d else lookK ks ds q
  | _, _, _ => none
def setL {κ α : Type} [DecidableEq κ] (q : κ) (x : α) : List κ → List α → List α
  | k :: ks, d :: ds => if k = q then x :: setL q x ks ds else d :: setL q x ks ds
  | _, _ => []
/-- d[q] = x: the keys, the items -/
def putKs {κ : Type} [DecidableEq κ] (ks : List κ) (q : κ) : List κ := if q ∈ ks then ks else ks ++ [q]
def putDs {κ α : Type} [DecidableEq κ] (ks : List κ) (ds : List α) (q : κ) (x : α) : List α := if q ∈ ks then setL q x ks ds else ds ++ [x]
def keyOf : D → Option Key
  | .int i => some (.inl i) | .str s => some (.inr s) | _ => none
def keysOf : List D → Option (List Key)
  | [] => some []
  | d :: ds => match keyOf d, keysOf ds with
    | some k, some ks => some (k :: ks)
    | _, _ => none
def cutD {α : Type} (xs : List α) (lo hi : Option Int) : List α := (xs.drop (HT.sIx xs.length 0 lo)).take (HT.sIx xs.length xs.length hi - HT.sIx xs.length 0 lo)
inductive BinK where
  | add | sub | mul | fdiv | mod | pow | xor
  deriving DecidableEq
inductive CmpK where
  | eq | ne | lt | le | gt | ge | isin | notin
  deriving DecidableEq
def mulOk (i j : Int) : Bool := decide ((-(2 ^ 64) < i ∧ i < 2 ^ 64) ∨ (-(2 ^ 64) < j ∧ j < 2 ^ 64))
def divOk (j : Int) : Bool := decide (0 < j ∧ j < 1073741824)
def powOk (i j : Int) : Bool := decide (0 ≤ j ∧ j ≤ 1000000 ∧ i.natAbs < 2 ^ 64)
def lenOk (n : Nat) : Bool := decide (n ≤ sizeLine)
def dBin : BinK → D → D → Option D
  | .add, .int i, .int j => some (.int (i + j))
  | .add, .str s, .str t => if lenOk (s.length + t.length) then some (.str (s ++ t)) else none
  | .add, .lst _ xs, .lst _ ys => if lenOk (xs.length + ys.length) then some (.lst .o (xs ++ ys)) else none
  | .sub, .int i, .int j => some (.int (i - j))
  | .mul, .int i, .int j => if mulOk i j then some (.int (i * j)) else none
  | .mul, .lst _ xs, .int k => if isZs xs && decide (-(2 ^ 63) ≤ k ∧ k < 2 ^ 63) && lenOk (xs.length * k.toNat) then some (.lst .o (List.replicate k.toNat xs).flatten) else none
  | .fdiv, .int i, .int j => if divOk j then some (.int (i / j)) else none
  | .mod, .int i, .int j => if decide (0 < j) then some (.int (i % j)) else none
  | .pow, .int i, .int j => if powOk i j then some (.int (i ^ j.toNat)) else none
  | .xor, .int i, .int j => some (.int (Builtin.bitXor i j))
  | _, _, _ => none
def dEq (a b : D) : Option Bool := match toP a, toP b with
  | some p, some q => if SeqAt.shaped p && SeqAt.shaped q then some (PyData.eqv p q) else none
  | _, _ => none
def dIn (a b : D) : Option Bool := match b with
  | .lst _ ds => match toP a, toPs ds with
    | some p, some ps => if SeqAt.shaped p && SeqAt.shaped (.list ps) then some (ps.any fun z => PyData.eqv z p) else none
    | _, _ => none
  | .dic _ ks ds => (keyOf a).map fun k => (lookK ks ds k).isSome
  | .dit _ ks ds => match a with
    | .tup es => (keysOf es).map fun k => (lookK ks ds k).isSome
    | _ => none
  | _ => none
def dCmp : CmpK → D → D → Option D
  | .eq, a, b => (dEq a b).map fun r => .bl r
  | .ne, a, b => (dEq a b).map fun r => .bl (!r)
  | .lt, .int i, .int j => some (.bl (decide (i < j)))
  | .le, .int i, .int j => some (.bl (decide (i ≤ j)))
  | .gt, .int i, .int j => some (.bl (decide (j < i)))
  | .ge, .int i, .int j => some (.bl (decide (j ≤ i)))
  | .isin, a, b => (dIn a b).map fun r => .bl r
  | .notin, a, b => (dIn a b).map fun r => .bl (!r)
  | _, _, _ => none
def dIx : D → D → Option D
  | .lst _ ds, .int i => atI ds i
  | .tup ds, .int i => atI ds i
  | .scr ns, .int i => (atI ns i).map .int
  | .dic _ ks ds, a => (keyOf a).bind fun k => lookK ks ds k
  | .dit _ ks ds, .tup es => (keysOf es).bind fun k => lookK ks ds k
  | _, _ => none
def dInt? : D → Option Int
  | .int i => some i | _ => none
def dCut : D → Option Int → Option Int → Option D
  | .lst _ ds, lo, hi => some (.lst .o (cutD ds lo hi))
  | _, _, _ => none
def dTru : D → Option Bool
  | .non => some false | .bl b => some b | .int i => some (i != 0)
  | .str s => if lenOk s.length then some ((s.length : Int) != 0) else none
  | .lst _ ds => some !ds.isEmpty | .tup ds => some !ds.isEmpty
  | _ => none
/-- built-in calls -/
inductive BK where
  | len | abs | int | list | tuple | sorted
  deriving DecidableEq
def tyName : D → String
  | .non => "NoneType" | .bl _ => "bool" | .int _ => "int" | .str _ => "str" | .scr _ => "list" | .tup _ => "tuple" | .lst _ _ => "list" | .dic _ _ _ => "dict" | .dit _ _ _ => "dict" | .obj _ _ _ => "?"
def sortIns (x : Int) : List Int → List Int
  | [] => [x]
  | y :: ys => if x ≤ y then x :: y :: ys else y :: sortIns x ys
def sortI : List Int → List Int
  | [] => []
  | x :: xs => sortIns x (sortI xs)
def intsOf : List D → Option (List Int)
  | [] => some []
  | .int i :: ds => (intsOf ds).map (i :: ·)
  | _ => none
def kintsOf : List Key → Option (List Int)
  | [] => some []
  | .inl i :: ds => (kintsOf ds).map (i :: ·)
  | _ => none
def dB : BK → D → Option D
  | .len, .lst _ ds => some (.int ds.length)
  | .len, .tup ds => some (.int ds.length)
  | .len, .scr ns => some (.int ns.length)
  | .len, .str s => if lenOk s.length then some (.int s.length) else none
  | .abs, .int i => some (.int (if i < 0 then -i else i))
  | .int, .int i => some (.int i)
  | .int, .bl b => some (.int (if b then 1 else 0))
  | .list, .lst _ ds => some (.lst .o ds)
  | .list, .tup ds => some (.lst .o ds)
  | .tuple, .lst _ ds => if cleans ds then some (.tup (zzs ds)) else none
  | .tuple, .tup ds => some (.tup ds)
  | .sorted, .lst _ ds => (intsOf ds).bind fun ns => some (.lst .o ((sortI ns).map .int))
  | .sorted, .dic _ ks _ => (kintsOf ks).bind fun ns => if ns.length < 64 then some (.lst .o ((sortI ns).map .int)) else none
  | _, _ => none
def dIsi (ty : String) (d : D) : Option D := match d with
  | .obj _ _ _ => none
  | .dit _ _ _ => none
  | .scr _ => none
  | d => (kitB (tyName d) ty).map fun b => .bl b

/-! ### the skeleton of a body -/
inductive Tg where
  | name (i : Nat)
  | tup (ts : List Nat)
  deriving DecidableEq
mutual
inductive C where
  | slot (i : Nat)
  | non | bl (b : Bool) | int (i : Int) | str (s : Str)
  | bin (op : BinK) (a b : C)
  | neg (a : C)
  | cmp (op : CmpK) (a b : C)
  | chain (op op' : CmpK) (a b c : C)
  | isN (neg : Bool) (a : C)
  | and (es : Cs) | or (es : Cs) | not (a : C)
  | ite (c : T) (a b : C)
  | tup (es : Cs) | lst (es : Cs) | dic | dit | dic1 (k v : C)
  | ix (a b : C)
  | cut (a : C) (lo hi : Co)
  | blt (b : BK) (a : C)
  | isi (ty : String) (a : C)
  | call (f : Nat) (es : Cs)
  | comp (it : It) (tg : Tg) (own : List Nat) (c : To) (e : C)
  | dcomp (it : It) (tg : Tg) (own : List Nat) (k e : C)
  | mn (a b : C)
  | flt (c : C) (i : Nat) (t : T)
inductive Cs where
  | nil | cons (c : C) (cs : Cs)
inductive Co where
  | none | some (c : C)
inductive T where
  | v (c : C) | b (c : C) | not (t : T) | and (ts : Ts) | or (ts : Ts)
inductive Ts where
  | nil | cons (t : T) (ts : Ts)
inductive To where
  | none | some (t : T)
inductive It where
  | r1 (a : C) | r2 (a b : C)
  | seq (c : C)
end
mutual
inductive S where
  | asg (t : Tg) (e : C)
  | mvs (i j : Nat)
  | aug (i : Nat) (neg : Bool) (e : C)
  | app (i : Nat) (path : Cs) (e : C)
  | put (i : Nat) (path : Cs) (k e : C)
  | augp (i : Nat) (path : Cs) (k : C) (neg : Bool) (e : C)
  | expr (e : C)
  | ife (t : T) (a b : Ss)
  | whl (n : Nat) (t : T) (b : Ss)
  | fr (it : It) (tg : Tg) (b : Ss)
  | ret (e : C) | retn | retmv (i : Nat)
  | brk | cont | pass
  | frz (i : Nat)
  | apop (i j : Nat) (k : C)
  | each (i g : Nat) (e : C)
inductive Ss where
  | nil | cons (s : S) (ss : Ss)
end
/-! ### what it does -/
def get (env : Env) (i : Nat) : R D := match env[i]? with
  | some (some d) => .ok d
  | _ => .st
def wipeE (env : Env) : List Nat → Env
  | [] => env
  | v :: vs => (wipeE env vs).set v none
def setAll : List Nat → List D → Env → R Env
  | [], [], env => .ok env
  | i :: is, d :: ds, env => if i < env.length then setAll is ds (env.set i (some d)) else .st
  | _, _, _ => .st
def setTg (t : Tg) (d : D) (env : Env) : R Env := match t with
  | .name i => if decide (i < env.length) then .ok (env.set i (some d)) else .st
  | .tup is => match d with
    | .tup ds => setAll is ds env
    | _ => .st
def Tg.slots : Tg → List Nat
  | .name i => [i] | .tup is => is
def Tg.within (t : Tg) (own : List Nat) : Bool := t.slots.all fun i => own.contains i
/-- the items that a loop over a thing that stays takes -/
def seqOf (lv : Bool) : D → Option (List D)
  | .tup ds => if lv || isZs ds then some ds else none
  | .lst .b ds => if lv then some ds else none
  | .lst _ ds => if cleans ds then some (zzs ds) else none
  | _ => none
def rngOk : Int → Bool
  | .ofNat n => Nat.ble n 4611686018427387903
  | .negSucc n => Nat.ble n 4611686018427387903
theorem rngOk_iff {i : Int} : rngOk i = true ↔ -(2 ^ 62) ≤ i ∧ i < 2 ^ 62 := by
  cases i with
  | ofNat n =>
    show Nat.ble n 4611686018427387903 = true ↔ _
    rw [Nat.ble_eq]
    show _ ↔ -(2 ^ 62) ≤ (n : Int) ∧ (n : Int) < 2 ^ 62
    omega
  | negSucc n =>
    show Nat.ble n 4611686018427387903 = true ↔ _
    rw [Nat.ble_eq]
    omega
def rangeD (lo : Int) (n : Nat) : List D := (List.range n).map fun (k : Nat) => .int (lo + k)
/-- a def: its number of parameters, what it does -/
structure FD where
  n : Nat
  sem : List D → R D
section
variable (Φ : Nat → FD)
/-- a def called with looked-at things gives back what must not be kept -/
def callD (f : FD) (ds : List D) : R D := if ds.length = f.n then (if isZs ds then f.sem ds else (f.sem (zzs ds)).bind fun d => .ok (taint d)) else .st
/-- a comprehension's turns -/
def compL (turn : D → R (Option D)) : List D → List D → R (List D)
  | [], acc => .ok acc
  | d :: ds, acc => (turn d).bind fun r => match r with
    | none => compL turn ds acc
    | some x => if clean x && decide (acc.length < sizeLine) then compL turn ds (acc ++ [x]) else .st
def dcompL (turn : D → R (Key × D)) : List D → List Key → List D → R (List Key × List D)
  | [], ks, ds => .ok (ks, ds)
  | d :: is, ks, ds => (turn d).bind fun r => if clean r.2 && decide (ks.length < sizeLine) && !memK r.1 ks then dcompL turn is (ks ++ [r.1]) (ds ++ [r.2]) else .st
/-- the items of a fresh list that pass a test -/
def fltL (test : D → R Bool) : List D → List D → R (List D)
  | [], acc => .ok acc
  | d :: ds, acc => (test d).bind fun b => fltL test ds (if b then acc ++ [d] else acc)
def noEx {α : Type} : R α → R α
  | .ex _ => .st | r => r
mutual
def evE : C → Env → R D
  | .slot i, env => (get env i).bind fun d => .ok (bb d)
  | .non, _ => .ok .non | .bl b, _ => .ok (.bl b) | .int i, _ => .ok (.int i) | .str s, _ => .ok (.str s)
  | .bin op a b, env => (evE a env).bind fun x => (evE b env).bind fun y => R.of (dBin op x y)
  | .neg a, env => (evE a env).bind fun x => (R.of (dInt? x)).bind fun i => .ok (.int (-i))
  | .cmp op a b, env => (evE a env).bind fun x => (evE b env).bind fun y => R.of (dCmp op x y)
  | .chain op op' a b c, env => (evE a env).bind fun x => (evE b env).bind fun y => (R.of (dCmp op x y)).bind fun r => match r with
    | .bl true => (evE c env).bind fun z => R.of (dCmp op' y z)
    | .bl false => .ok (.bl false)
    | _ => .st
  | .isN n a, env => (evE a env).bind fun x => match x with
    | .non => .ok (.bl !n)
    | _ => .ok (.bl n)
  | .and es, env => evAnd es env
  | .or es, env => evOr es env
  | .not a, env => (evE a env).bind fun x => match x with
    | .bl b => .ok (.bl !b)
    | _ => .st
  | .ite c a b, env => (evT c env).bind fun t => if t then evE a env else evE b env
  | .tup es, env => (evEs es env).bind fun ds => if cleans ds && lenOk ds.length then .ok (.tup (zzs ds)) else .st
  | .lst es, env => (evEs es env).bind fun ds => if lenOk ds.length then .ok (.lst .o ds) else .st
  | .dic, _ => .ok (.dic .o [] [])
  | .dit, _ => .ok (.dit .o [] [])
  | .dic1 k v, env => (evE k env).bind fun x => (evE v env).bind fun y => (R.of (keyOf x)).bind fun q => if clean y then .ok (.dic .o [q] [y]) else .st
  | .ix a b, env => (evE a env).bind fun x => (evE b env).bind fun y => R.of (dIx x y)
  | .cut a lo hi, env => (evE a env).bind fun x => (evO lo env).bind fun l => (evO hi env).bind fun h => R.of (dCut x l h)
  | .blt b a, env => (evE a env).bind fun x => R.of (dB b x)
  | .isi ty a, env => (evE a env).bind fun x => R.of (dIsi ty x)
  | .call f es, env => (evEs es env).bind fun ds => callD (Φ f) ds
  | .comp it tg own c e, env => (evIt it true env).bind fun ds => if !tg.within own then .st else
      (compL (fun d => noEx ((setTg tg d (wipeE env own)).bind fun env' => (evTo c env').bind fun b => if b then (evE e env').bind fun x => .ok (some x) else .ok none)) ds []).bind fun xs => .ok (.lst .o xs)
  | .dcomp it tg own k e, env => (evIt it true env).bind fun ds => if !tg.within own then .st else
      (dcompL (fun d => noEx ((setTg tg d (wipeE env own)).bind fun env' => (evE k env').bind fun x => (R.of (keyOf x)).bind fun q => (evE e env').bind fun y => .ok (q, y))) ds [] []).bind fun r => .ok (.dic .o r.1 r.2)
  | .mn a b, env => (evE a env).bind fun x => (evE b env).bind fun y => (R.of (dInt? x)).bind fun i => (R.of (dInt? y)).bind fun j => .ok (.int (if j < i then j else i))
  | .flt c i t, env => (evE c env).bind fun x => match x with
    | .lst .o ds => if cleans ds && decide (i < env.length) && decide (ds.length ≤ sizeLine) then (fltL (fun d => noEx ((setTg (.name i) (bb d) (wipeE env [i])).bind fun env' => evT t env')) ds []).bind fun es => .ok (.lst .o es) else .st
    | _ => .st
def evEs : Cs → Env → R (List D)
  | .nil, _ => .ok []
  | .cons c cs, env => (evE c env).bind fun d => (evEs cs env).bind fun ds => .ok (d :: ds)
/-- a path's keys, the last one first; they are reckoned from the first one -/
def evP : Cs → Env → R (List D)
  | .nil, _ => .ok []
  | .cons c cs, env => (evP cs env).bind fun ds => (noEx (evE c env)).bind fun d => .ok (d :: ds)
def evO : Co → Env → R (Option Int)
  | .none, _ => .ok none
  | .some c, env => (evE c env).bind fun x => (R.of (dInt? x)).bind fun i => .ok (some i)
def evTo : To → Env → R Bool
  | .none, _ => .ok true
  | .some c, env => evT c env
def evT : T → Env → R Bool
  | .v c, env => (evE c env).bind fun x => R.of (dTru x)
  | .b c, env => (evE c env).bind fun x => match x with
    | .bl b => .ok b
    | _ => .st
  | .not a, env => (evT a env).bind fun b => .ok !b
  | .and es, env => evTA es env
  | .or es, env => evTO es env
def evAnd : Cs → Env → R D
  | .nil, _ => .ok (.bl true)
  | .cons c cs, env => (evE c env).bind fun x => match x with
    | .bl true => evAnd cs env
    | .bl false => .ok (.bl false)
    | _ => .st
def evOr : Cs → Env → R D
  | .nil, _ => .ok (.bl false)
  | .cons c cs, env => (evE c env).bind fun x => match x with
    | .bl false => evOr cs env
    | .bl true => .ok (.bl true)
    | _ => .st
def evTA : Ts → Env → R Bool
  | .nil, _ => .ok true
  | .cons c cs, env => (evT c env).bind fun b => if b then evTA cs env else .ok false
def evTO : Ts → Env → R Bool
  | .nil, _ => .ok false
  | .cons c cs, env => (evT c env).bind fun b => if b then .ok true else evTO cs env
def evIt : It → Bool → Env → R (List D)
  | .r1 a, lv, env => (evE a env).bind fun x => (R.of (dInt? x)).bind fun i => if rngOk i then .ok (rangeD 0 i.toNat) else .st
  | .r2 a b, lv, env => (evE a env).bind fun x => (R.of (dInt? x)).bind fun i => (evE b env).bind fun y => (R.of (dInt? y)).bind fun j => if rngOk i && rngOk j then .ok (rangeD i (j - i).toNat) else .st
  | .seq c, lv, env => (evE c env).bind fun x => R.of (seqOf lv x)
end
/-! ### statements -/
/-- an item of a held thing, and the thing with another item there (paths: the last key first) -/
def stepO (e k : D) : Option D := match e, k with
  | .lst .o ds, .int i => atI ds i
  | .dic .o ks ds, k => (keyOf k).bind fun q => lookK ks ds q
  | .dit .o ks ds, .tup es => (keysOf es).bind fun q => lookK ks ds q
  | _, _ => none
def putO (e k x : D) : D := match e, k with
  | .lst .o ds, .int i => match ixN ds.length i with
    | some j => .lst .o (ds.set j x)
    | none => e
  | .dic .o ks ds, k => match keyOf k with
    | some q => .dic .o ks (setL q x ks ds)
    | none => e
  | .dit .o ks ds, .tup es => match keysOf es with
    | some q => .dit .o ks (setL q x ks ds)
    | none => e
  | e, _ => e
def getO (d : D) : List D → Option D
  | [] => some d
  | k :: ks => (getO d ks).bind fun e => stepO e k
def setO (d : D) : List D → D → D
  | [], x => x
  | k :: ks, x => match getO d ks with
    | some e => setO d ks (putO e k x)
    | none => d
/-- e[k] = x of a held thing -/
def storeO (e k x : D) : Option D := match e, k with
  | .lst .o ds, .int i => (ixN ds.length i).map fun j => .lst .o (ds.set j x)
  | .dic .o ks ds, k => (keyOf k).bind fun q => if ks.length < sizeLine then some (.dic .o (putKs ks q) (putDs ks ds q x)) else none
  | .dit .o ks ds, .tup es => (keysOf es).bind fun q => if ks.length < sizeLine then some (.dit .o (putKs ks q) (putDs ks ds q x)) else none
  | _, _ => none
def appO (e x : D) : Option D := match e with
  | .lst .o ds => if ds.length < sizeLine then some (.lst .o (ds ++ [x])) else none
  | _ => none
/-- an item taken out -/
def popO (e : D) (n : Int) : Option (D × D) := match e with
  | .lst .o ds => (ixN ds.length n).bind fun m => (ds[m]?).bind fun x => if isZ x && rngOk n then some (x, .lst .o (ds.eraseIdx m)) else none
  | _ => none
def eachO (x : D) (d : D) : Option D := match d with
  | .lst .o ds => if ds.all fun t => (appO t x).isSome then some (.lst .o (ds.map fun t => (appO t x).getD t)) else none
  | _ => none
inductive Out where
  | nx (env : Env) | rt (d : D) | bk (env : Env) | ct (env : Env)
def R.nx (r : R Out) (f : Env → R Out) : R Out := r.bind fun o => match o with
  | .nx env => f env
  | o => .ok o
def forL (body : D → Env → R Out) : List D → Env → R Out
  | [], env => .ok (.nx env)
  | d :: ds, env => (body d env).bind fun o => match o with
    | .nx env' => forL body ds env'
    | .ct env' => forL body ds env'
    | .bk env' => .ok (.nx env')
    | .rt x => .ok (.rt x)
def whileN (test : Env → R Bool) (body : Env → R Out) : Nat → Env → R Out
  | 0, _ => .st
  | n + 1, env => (test env).bind fun b => if b then (body env).bind fun o => (match o with
    | .nx env' => whileN test body n env'
    | .ct env' => whileN test body n env'
    | .bk env' => .ok (.nx env')
    | .rt x => .ok (.rt x)) else .ok (.nx env)
/-- the held thing in slot i, changed at a path by f -/
def atO (env : Env) (i : Nat) (path : List D) (f : D → Option D) : R Env :=
  (get env i).bind fun d => (R.of ((getO d path).bind f)).bind fun e => .ok (env.set i (some (setO d path e)))
mutual
def evS : S → Env → R Out
  | .asg t e, env => (evE Φ e env).bind fun d => match t with
    | .name i => if clean d && decide (i < env.length) then .ok (.nx (env.set i (some d))) else .st
    | t => if isZ d then (setTg t d env).bind fun env' => .ok (.nx env') else .st
  | .mvs i j, env => (get env j).bind fun d => if decide (i < env.length) && decide (i ≠ j) then .ok (.nx ((env.set j none).set i (some d))) else .st
  | .aug i n e, env => (get env i).bind fun d => (evE Φ e env).bind fun y => (R.of (dInt? d)).bind fun a => (R.of (dInt? y)).bind fun b => .ok (.nx (env.set i (some (.int (if n then a - b else a + b)))))
  | .app i path e, env => (evP Φ path env).bind fun ks => (noEx (evE Φ e env)).bind fun x => if clean x then (atO env i ks fun t => appO t x).bind fun env' => .ok (.nx env') else .st
  | .put i path k e, env => (evE Φ e env).bind fun x => (evP Φ path env).bind fun ks => (noEx (evE Φ k env)).bind fun q => if clean x then (atO env i ks fun t => storeO t q x).bind fun env' => .ok (.nx env') else .st
  | .augp i path k n e, env => (evP Φ path env).bind fun ks => (noEx (evE Φ k env)).bind fun q => (get env i).bind fun d => (R.of ((getO d ks).bind fun t => stepO t q)).bind fun o => (noEx (evE Φ e env)).bind fun y =>
      (R.of (dInt? o)).bind fun a => (R.of (dInt? y)).bind fun b => (atO env i ks fun t => storeO t q (.int (if n then a - b else a + b))).bind fun env' => .ok (.nx env')
  | .expr e, env => (evE Φ e env).bind fun _ => .ok (.nx env)
  | .ife t a b, env => (evT Φ t env).bind fun c => if c then evSs a env else evSs b env
  | .whl n t b, env => whileN (evT Φ t) (evSs b) n env
  | .fr it tg b, env => (evIt Φ it false env).bind fun ds => forL (fun d env => (setTg tg d env).bind fun env' => evSs b env') ds env
  | .ret e, env => (evE Φ e env).bind fun d => .ok (.rt d)
  | .retn, _ => .ok (.rt .non)
  | .retmv i, env => (get env i).bind fun d => .ok (.rt d)
  | .brk, env => .ok (.bk env)
  | .cont, env => .ok (.ct env)
  | .pass, env => .ok (.nx env)
  | .frz i, env => (get env i).bind fun d => .ok (.nx (env.set i (some (zz d))))
  | .apop i j k, env => (noEx (evE Φ k env)).bind fun q => (R.of (dInt? q)).bind fun n => (get env j).bind fun d => (get env i).bind fun e => (R.of (popO d n)).bind fun r => (R.of (appO e r.1)).bind fun e' =>
      if decide (i ≠ j) then .ok (.nx ((env.set j (some r.2)).set i (some e'))) else .st
  | .each i g e, env => (get env i).bind fun d => (noEx (evE Φ e ((env.set i none).set g none))).bind fun x => (R.of (eachO x d)).bind fun d' =>
      if isZ x && decide (g < env.length) && decide (g ≠ i) then .ok (.nx ((env.set i (some d')).set g none)) else .st
def evSs : Ss → Env → R Out
  | .nil, env => .ok (.nx env)
  | .cons s ss, env => (evS s env).nx fun env' => evSs ss env'
end
/-- a def's body, run over its arguments -/
def runF (nslots : Nat) (body : Ss) (ds : List D) : R D := (evSs Φ body (ds.map some ++ List.replicate (nslots - ds.length) none)).bind fun o => match o with
  | .nx _ => .ok .non
  | .rt d => .ok d
  | _ => .st
end
end EV
namespace EV
open PySem L2
/-! ### how states grow -/
structure Fut (S0 H0 S H : Hp) : Prop where
  hp : Same H0 H
  st : Same S0 S
  sub : Same S H
  new : ∀ a o, S a = some o → S0 a = some o ∨ H0 a = none ∨ (H0 a = some o ∧ Imm o)
theorem Same.none {H H' : Hp} (s : Same H H') {a : Addr} (h : H' a = none) : H a = none := Same.free s h
theorem Fut.refl {S H : Hp} (s : Same S H) : Fut S H S H := ⟨Same.refl _, Same.refl _, s, fun _ _ e => .inl e⟩
theorem Fut.trans {S0 H0 S1 H1 S2 H2 : Hp} (f : Fut S0 H0 S1 H1) (g : Fut S1 H1 S2 H2) : Fut S0 H0 S2 H2 := by
  refine ⟨f.hp.trans g.hp, f.st.trans g.st, g.sub, fun a o e => ?_⟩
  rcases g.new a o e with z | z | ⟨z, i⟩
  · exact f.new a o z
  · exact .inr (.inl (Same.none f.hp z))
  · cases h : H0 a with
    | none => exact .inr (.inl rfl)
    | some u =>
      have e2 := f.hp _ _ h
      rw [z] at e2
      cases e2
      exact .inr (.inr ⟨rfl, i⟩)
structure Fresh (H0 S : Hp) (B : List Addr) : Prop where
  nd : B.Nodup
  new : ∀ p ∈ B, H0 p = none ∧ S p = none
theorem Fresh.nil {H0 S : Hp} : Fresh H0 S [] := ⟨List.nodup_nil, fun _ z => nomatch z⟩
theorem notImm {H : Hp} {p : Addr} {o : HO} (t : (∃ xs, H p = some (.lst xs)) ∨ (∃ kvs, H p = some (.dK kvs)) ∨ ∃ kvs, H p = some (.dT kvs)) (e : H p = some o) : ¬ Imm o := by
  rcases t with ⟨_, t⟩ | ⟨_, t⟩ | ⟨_, t⟩ <;> (rw [t] at e; cases e; exact fun z => z)
/-- held things stay out of S -/
theorem out_keep {S H S' H' : Hp} (f : Fut S H S' H') {p : Addr} (t : (∃ xs, H p = some (.lst xs)) ∨ (∃ kvs, H p = some (.dK kvs)) ∨ ∃ kvs, H p = some (.dT kvs)) (o : S p = none) : S' p = none := by
  cases e : S' p with
  | none => rfl
  | some u =>
    exfalso
    rcases f.new p u e with z | z | ⟨z, i⟩
    · rw [o] at z; cases z
    · rcases t with ⟨_, t⟩ | ⟨_, t⟩ | ⟨_, t⟩ <;> (rw [t] at z; cases z)
    · exact notImm t z i
variable {K : PySem.W.Frag} {S S' H H' S0 H0 S1 H1 : Hp}
theorem Own.fut (f : Fut S H S' H') {d : D} {v : V} {B : List Addr} (h : Own K S H d v B) : Own K S' H' d v B := by
  refine Own.keep f.st d v B (.inr f.hp) (fun p hp => ?_) h
  rcases Own.there d v B h p hp with ⟨_, t⟩ | ⟨_, t⟩ | ⟨_, t⟩ <;> rw [t, f.hp _ _ t]
theorem Owns.fut (f : Fut S H S' H') {d : List D} {v : List V} {B : List Addr} (h : Owns K S H d v B) : Owns K S' H' d v B := by
  refine Owns.keep f.st d v B (.inr f.hp) (fun p hp => ?_) h
  rcases Owns.there d v B h p hp with ⟨_, t⟩ | ⟨_, t⟩ | ⟨_, t⟩ <;> rw [t, f.hp _ _ t]
theorem Fresh.fut (f : Fut S H S' H') {B : List Addr} (r : Fresh H0 S B) (t : ∀ p ∈ B, (∃ xs, H p = some (.lst xs)) ∨ (∃ kvs, H p = some (.dK kvs)) ∨ ∃ kvs, H p = some (.dT kvs)) : Fresh H0 S' B :=
  ⟨r.nd, fun p hp => ⟨(r.new p hp).1, out_keep f (t p hp) (r.new p hp).2⟩⟩
theorem Fresh.back (s : Same H0 H) {B : List Addr} (r : Fresh H S B) : Fresh H0 S B := ⟨r.nd, fun p hp => ⟨Same.none s (r.new p hp).1, (r.new p hp).2⟩⟩
/-- two evaluated one after the other -/
theorem Fresh.app (f : Fut S1 H1 S' H') (s : Same H0 H1) {B B' : List Addr} (r : Fresh H0 S1 B) (t : ∀ p ∈ B, (∃ xs, H1 p = some (.lst xs)) ∨ (∃ kvs, H1 p = some (.dK kvs)) ∨ ∃ kvs, H1 p = some (.dT kvs))
    (r' : Fresh H1 S' B') : Fresh H0 S' (B ++ B') := by
  have r1 := r.fut f t
  refine ⟨List.nodup_append.mpr ⟨r.nd, r'.nd, fun a ha b hb e => ?_⟩, fun p hp => ?_⟩
  · subst e
    have := (r'.new a hb).1
    rcases t a ha with ⟨_, t⟩ | ⟨_, t⟩ | ⟨_, t⟩ <;> (rw [t] at this; cases this)
  · rcases List.mem_append.mp hp with hp | hp
    · exact r1.new p hp
    · exact (r'.back s).new p hp
theorem Fresh.sub {B B' : List Addr} (r : Fresh H0 S B) (h : B'.Sublist B) : Fresh H0 S B' := ⟨r.nd.sublist h, fun p hp => r.new p (h.subset hp)⟩

/-! ### the frame -/
structure Sta (K : PySem.W.Frag) (S H : Hp) (σ : St) (env : Env) (As : Nat → List Addr) : Prop where
  sub : Same S H
  len : σ.length = env.length
  val : ∀ i d, env[i]? = some (some d) → ∃ v, σ[i]? = some (some v) ∧ Own K S H d v (As i)
  emp : ∀ i, (∀ d, env[i]? ≠ some (some d)) → As i = []
  nd : ∀ i, (As i).Nodup
  dj : ∀ i j, i ≠ j → ∀ p ∈ As i, p ∉ As j
  out : ∀ i, ∀ p ∈ As i, S p = none
variable {σ : St} {env : Env} {As : Nat → List Addr}
theorem Sta.there (s : Sta K S H σ env As) (i : Nat) : ∀ p ∈ As i, (∃ xs, H p = some (.lst xs)) ∨ (∃ kvs, H p = some (.dK kvs)) ∨ ∃ kvs, H p = some (.dT kvs) := by
  intro p hp
  by_cases h : ∃ d, env[i]? = some (some d)
  · obtain ⟨d, h⟩ := h
    obtain ⟨v, _, o⟩ := s.val i d h
    exact Own.there d v _ o p hp
  · rw [s.emp i (fun d e => h ⟨d, e⟩)] at hp
    cases hp
theorem Sta.fut (s : Sta K S H σ env As) (f : Fut S H S' H') : Sta K S' H' σ env As :=
  ⟨f.sub, s.len, fun i d e => let ⟨v, h, o⟩ := s.val i d e; ⟨v, h, o.fut f⟩, s.emp, s.nd, s.dj, fun i p hp => out_keep f (s.there i p hp) (s.out i p hp)⟩

/-! ### what is wanted behind an expression -/
def KE (K : PySem.W.Frag) (S H : Hp) (d : D) (Q : VK) : Prop := ∀ v S' H' B, Fut S H S' H' → Own K S' H' d v B → Fresh H S' B → Q v H'
def KEs (K : PySem.W.Frag) (S H : Hp) (ds : List D) (Q : List V → Hp → Prop) : Prop := ∀ vs S' H' B, Fut S H S' H' → Owns K S' H' ds vs B → Fresh H S' B → Q vs H'
def KB (S H : Hp) (b : Bool) (Q : Bool → Hp → Prop) : Prop := ∀ S' H', Fut S H S' H' → Q b H'
variable {XR : Exc → Value → Option Addr → Hp → Prop}
def KX (XR : Exc → Value → Option Addr → Hp → Prop) (H : Hp) (x : Exc) (E : XK) : Prop := ∀ v od H', Same H H' → XR x v od H' → E v od H'
/-- the outcome r meets what is wanted: P of a value, E of an exception -/
def Kont {α : Type} (XR : Exc → Value → Option Addr → Hp → Prop) (E : XK) (H : Hp) (r : R α) (P : α → Prop) : Prop := match r with
  | .ok d => P d
  | .ex x => KX XR H x E
  | .st => False
variable {E : XK}
theorem KX.fut {x : Exc} (k : KX XR H x E) (s : Same H H') : KX XR H' x E := fun v od H2 s2 h => k v od H2 (s.trans s2) h
theorem KE.fut {d : D} {Q : VK} (k : KE K S H d Q) (f : Fut S H S' H') : KE K S' H' d Q := fun v S2 H2 B g o r => k v S2 H2 B (f.trans g) o (r.back f.hp)
theorem KEs.fut {d : List D} {Q : List V → Hp → Prop} (k : KEs K S H d Q) (f : Fut S H S' H') : KEs K S' H' d Q := fun v S2 H2 B g o r => k v S2 H2 B (f.trans g) o (r.back f.hp)
theorem KB.fut {d : Bool} {Q : Bool → Hp → Prop} (k : KB S H d Q) (f : Fut S H S' H') : KB S' H' d Q := fun S2 H2 g => k S2 H2 (f.trans g)
theorem Kont.imp {α : Type} {r : R α} {P P' : α → Prop} (k : Kont XR E H r P) (s : Same H H') (h : ∀ a, r = .ok a → P a → P' a) : Kont XR E H' r P' := by
  cases r with
  | ok a => exact h a rfl k
  | ex x => exact k.fut s
  | st => exact k
theorem Kont.bind {α β : Type} {r : R α} {f : α → R β} {P : β → Prop} {P' : α → Prop} (k : Kont XR E H (r.bind f) P) (s : Same H H') (h : ∀ a, r = .ok a → Kont XR E H (f a) P → P' a) : Kont XR E H' r P' := by
  cases r with
  | ok a => exact h a rfl k
  | ex x => exact KX.fut (show KX XR H x E from k) s
  | st => exact k
theorem Kont.of {α : Type} {o : Option α} {P : α → Prop} (k : Kont XR E H (R.of o) P) : ∃ a, o = some a ∧ P a := by
  cases o with
  | none => exact k.elim
  | some a => exact ⟨a, rfl, k⟩
theorem Kont.ofBind {α β : Type} {o : Option α} {f : α → R β} {P : β → Prop} (k : Kont XR E H ((R.of o).bind f) P) : ∃ a, o = some a ∧ Kont XR E H (f a) P := by
  cases o with
  | none => exact k.elim
  | some a => exact ⟨a, rfl, k⟩
/-! ### a flat result -/
theorem KE.int {i : Int} {Q : VK} (k : KE K S0 H0 (.int i) Q) (f : Fut S0 H0 S H) : Q (.int i) H := k _ S H [] f ⟨rfl, rfl⟩ .nil
theorem KE.bl {i : Bool} {Q : VK} (k : KE K S0 H0 (.bl i) Q) (f : Fut S0 H0 S H) : Q (.bl i) H := k _ S H [] f ⟨rfl, rfl⟩ .nil
theorem KE.str {i : Str} {Q : VK} (k : KE K S0 H0 (.str i) Q) (f : Fut S0 H0 S H) : Q (.str i) H := k _ S H [] f ⟨rfl, rfl⟩ .nil
theorem KE.non {Q : VK} (k : KE K S0 H0 .non Q) (f : Fut S0 H0 S H) : Q .non H := k _ S H [] f ⟨rfl, rfl⟩ .nil
theorem Fut.upd {p : Addr} {o : HO} (f : Fut S0 H0 S H) (n : H p = none) : Fut S0 H0 S (L2.upd H p o) := by
  have s : Same H (L2.upd H p o) := fun b u e => by rw [upd_ne (ne_of_none e n)]; exact e
  exact ⟨f.hp.trans s, f.st, f.sub.trans s, f.new⟩
theorem same_upd {p : Addr} {o : HO} (n : H p = none) : Same H (upd H p o) := fun b u e => by rw [upd_ne (ne_of_none e n)]; exact e
/-- a new list -/
theorem KE.newL {ds : List D} {vs : List V} {B : List Addr} {Q : VK} (k : KE K S0 H0 (.lst .o ds) Q) (f : Fut S0 H0 S H) (o : Owns K S H ds vs B) (r : Fresh H0 S B) {p : Addr} (n : H p = none) : Q (.ref p) (upd H p (.lst vs)) := by
  have t := Owns.there ds vs B o
  have g : Fut S H S (upd H p (.lst vs)) := (Fut.refl f.sub).upd n
  refine k _ S _ (p :: B) (f.upd n) ⟨p, vs, B, rfl, rfl, upd_same, o.fut g⟩ ⟨List.nodup_cons.mpr ⟨fun z => ?_, r.nd⟩, fun q hq => ?_⟩
  · rcases t p z with ⟨_, t⟩ | ⟨_, t⟩ | ⟨_, t⟩ <;> (rw [t] at n; cases n)
  · rcases List.mem_cons.mp hq with rfl | hq
    · exact ⟨Same.none f.hp n, Same.none f.sub n⟩
    · exact r.new q hq
/-- S with more -/
noncomputable def more (S H : Hp) (B : List Addr) : Hp := fun a => if a ∈ B then H a else S a
theorem more_in {B : List Addr} {p : Addr} (h : p ∈ B) : more S H B p = H p := by unfold more; rw [if_pos h]
theorem more_out {B : List Addr} {p : Addr} (h : p ∉ B) : more S H B p = S p := by unfold more; rw [if_neg h]
theorem Fut.more {B : List Addr} (f : Fut S0 H0 S H) (r : Fresh H0 S B) : Fut S0 H0 (more S H B) H ∧ Same S (EV.more S H B) := by
  have s : Same S (EV.more S H B) := fun a o e => by
    by_cases h : a ∈ B
    · rw [(r.new a h).2] at e; cases e
    · rw [more_out h]; exact e
  refine ⟨⟨f.hp, f.st.trans s, fun a o e => ?_, fun a o e => ?_⟩, s⟩
  · by_cases h : a ∈ B
    · rw [more_in h] at e; exact e
    · rw [more_out h] at e; exact f.sub a o e
  · by_cases h : a ∈ B
    · exact .inr (.inl (r.new a h).1)
    · rw [more_out h] at e; exact f.new a o e
/-- a new tuple of things that are shared from now on -/
theorem KE.newT {ds : List D} {vs : List V} {B : List Addr} {Q : VK} (k : KE K S0 H0 (.tup (zzs ds)) Q) (f : Fut S0 H0 S H) (o : Owns K S H ds vs B) (c : cleans ds = true) (r : Fresh H0 S B) {p : Addr} (n : H p = none) : Q (.ref p) (upd H p (.tup vs)) := by
  obtain ⟨g, s⟩ := f.more r
  have oz : Owns K (more S H B) H (zzs ds) vs [] := Owns.freeze s ds vs B c (fun p hp => more_in hp) o
  have g2 := g.upd (o := .tup vs) n
  have n2 : more S H B p = none := Same.none g.sub n
  have s3 : Same (more S H B) (upd (more S H B) p (.tup vs)) := same_upd n2
  have f3 : Fut S0 H0 (upd (more S H B) p (.tup vs)) (upd H p (.tup vs)) := by
    refine ⟨g2.hp, g2.st.trans s3, fun a u e => ?_, fun a u e => ?_⟩
    · by_cases h : a = p
      · subst h; rw [upd_same] at e ⊢; exact e
      · rw [upd_ne h] at e ⊢; exact g.sub a u e
    · by_cases h : a = p
      · subst h; exact .inr (.inl (Same.none f.hp n))
      · rw [upd_ne h] at e; exact g.new a u e
  exact k _ _ _ [] f3 ⟨rfl, p, vs, rfl, upd_same, Owns.keep s3 (zzs ds) vs [] (.inr (same_upd n)) (fun _ z => nomatch z) oz⟩ .nil
end EV
namespace EV
open PySem L2
variable {K : PySem.W.Frag} {S S' H H' S0 H0 S1 H1 : Hp}
/-! ### what the operations ask of values -/
def rStrAdd : R2 := fun x y H Q => ∃ i j, x = .str i ∧ y = .str j ∧ i.length + j.length ≤ sizeLine ∧ Q (.str (i ++ j)) H
def rCatS (K : PySem.W.Frag) : R2 := fun x y H Q => ∃ l b xs zs, x = .ref l ∧ y = .ref b ∧ H l = some (.lst xs) ∧ H b = some (.lst zs) ∧ xs.length + zs.length ≤ sizeLine ∧ ∀ p, H p = none → Q (.ref p) (upd H p (.lst (xs ++ zs)))
def rRepS (K : PySem.W.Frag) : R2 := fun x y H Q => ∃ l k xs, x = .ref l ∧ y = .int k ∧ H l = some (.lst xs) ∧ -(2 ^ 63) ≤ k ∧ k < 2 ^ 63 ∧ xs.length * k.toNat ≤ sizeLine ∧
  ∀ p, H p = none → Q (.ref p) (upd H p (.lst (List.replicate k.toNat xs).flatten))
def rBin (K : PySem.W.Frag) : BinK → R2
  | .add => fun x y H Q => rI0 (fun i j => .int (i + j)) x y H Q ∨ rStrAdd x y H Q ∨ rCatS K x y H Q
  | .sub => rI0 fun i j => .int (i - j)
  | .mul => fun x y H Q => rI CMul (fun i j => .int (i * j)) x y H Q ∨ rRepS K x y H Q
  | .fdiv => rI CDiv fun i j => .int (i / j)
  | .mod => rI (fun _ j => 0 < j) fun i j => .int (i % j)
  | .pow => rI CPow fun i j => .int (i ^ j.toNat)
  | .xor => rI0 fun i j => .int (Builtin.bitXor i j)
def rDIn (neg : Bool) : R2 := fun x y H Q => ∃ a o, y = .ref a ∧ DGet H a x o ∧ Q (.bl (if neg then !o.isSome else o.isSome)) H
def rCmp (K : PySem.W.Frag) : CmpK → R2
  | .eq => rEqD K
  | .ne => rNeD K
  | .lt => rI0 fun i j => .bl (decide (i < j))
  | .le => rI0 fun i j => .bl (decide (i ≤ j))
  | .gt => rI0 fun i j => .bl (decide (j < i))
  | .ge => rI0 fun i j => .bl (decide (j ≤ i))
  | .isin => fun x y H Q => rInD K x y H Q ∨ rDIn false x y H Q
  | .notin => fun x y H Q => rNotInD K x y H Q ∨ rDIn true x y H Q
def rIxA (K : PySem.W.Frag) : R2 := fun x y H Q => rIxL K x y H Q ∨ rIxT K x y H Q ∨ ∃ a v, x = .ref a ∧ DGet H a y (some v) ∧ Q v H
def rSlA (K : PySem.W.Frag) : V → Option Int → Option Int → Hp → VK → Prop := fun x lo hi H Q => rSlL K x lo hi H Q ∨ rSlT K x lo hi H Q
def rB (K : PySem.W.Frag) : BK → List V → Hp → VK → Prop
  | .len => fun xs H Q => (∃ x n, xs = [x] ∧ LenV K x H n ∧ Q (.int n) H)
  | .abs => fun xs H Q => ∃ i, xs = [.int i] ∧ Q (.int (if i < 0 then -i else i)) H
  | .int => fun xs H Q => (∃ i, xs = [.int i] ∧ Q (.int i) H) ∨ ∃ k, xs = [.bl k] ∧ Q (.int (if k then 1 else 0)) H
  | .list => fun xs H Q => ∃ p ys, xs = [.ref p] ∧ (SqL K H p ys ∨ SqT K H p ys) ∧ ∀ l, H l = none → Q (.ref l) (upd H l (.lst ys))
  | .tuple => fun xs H Q => ∃ p ys, xs = [.ref p] ∧ ((SqL K H p ys ∧ ∀ l, H l = none → Q (.ref l) (upd H l (.tup ys))) ∨ (SqT K H p ys ∧ Q (.ref p) H))
  | .sorted => fun xs H Q => rSortedI K xs H Q ∨ (∃ (a : Addr) (kvs : List (Key × V)) (ks : List Int), xs = [.ref a] ∧ Rd H a (.dK kvs) ∧ kvs.map (·.1) = ks.map Sum.inl ∧ ks.length < 64 ∧
    ∀ (ys : List Int) (p : Addr), ys.Perm ks → ys.Pairwise (· ≤ ·) → H p = none → Q (.ref p) (upd H p (.lst (ys.map V.int))))

/-! ### data read off values -/
mutual
theorem Own.dp (s : Same S H) : ∀ (d : D) (v : V) (B : List Addr) (p : PyData), toP d = some p → Own K S H d v B → Dp K H v p
  | .non, v, B, p, e, h => by cases e; rw [h.1]; exact .non
  | .bl _, v, B, p, e, h => by cases e; rw [h.1]; exact .bl _
  | .int _, v, B, p, e, h => by cases e; rw [h.1]; exact .int _
  | .str _, v, B, p, e, h => by cases e; rw [h.1]; exact .str _
  | .scr _, v, B, p, e, h => nomatch e
  | .tup ds, v, B, p, e, h => by
    obtain ⟨_, a, vs, rfl, q, r⟩ := h
    obtain ⟨ps, e1, rfl⟩ := Option.map_eq_some_iff.mp e
    exact .tup (.inl (.inl (s _ _ q))) (Owns.dp s ds vs [] ps e1 r)
  | .lst .z ds, v, B, p, e, h => by
    obtain ⟨_, a, vs, rfl, q, r⟩ := h
    obtain ⟨ps, e1, rfl⟩ := Option.map_eq_some_iff.mp e
    exact .lst (.inl (.inl (s _ _ q))) (Owns.dp s ds vs [] ps e1 r)
  | .lst .b ds, v, B, p, e, h => by
    obtain ⟨_, a, vs, rfl, q, r⟩ := h
    obtain ⟨ps, e1, rfl⟩ := Option.map_eq_some_iff.mp e
    exact .lst (.inl (.inl q)) (Owns.dp s ds vs [] ps e1 r)
  | .lst .o ds, v, B, p, e, h => by
    obtain ⟨a, vs, B', rfl, _, q, r⟩ := h
    obtain ⟨ps, e1, rfl⟩ := Option.map_eq_some_iff.mp e
    exact .lst (.inl (.inl q)) (Owns.dp s ds vs B' ps e1 r)
  | .dic _ _ _, v, B, p, e, h => nomatch e
  | .dit _ _ _, v, B, p, e, h => nomatch e
  | .obj _ _ _, v, B, p, e, h => nomatch e
theorem Owns.dp (s : Same S H) : ∀ (ds : List D) (vs : List V) (B : List Addr) (ps : List PyData), toPs ds = some ps → Owns K S H ds vs B → DpAll K H vs ps
  | [], vs, B, ps, e, h => by cases e; rw [h.1]; exact .nil
  | d :: ds, vs, B, ps, e, h => by
    obtain ⟨v, vs', B1, B2, rfl, _, r, rs⟩ := h
    simp only [toPs] at e
    split at e
    · rename_i p0 ps0 h1 h2
      cases e
      exact .cons (Own.dp s d v B1 p0 h1 r) (Owns.dp s ds vs' B2 ps0 h2 rs)
    · cases e
end
theorem Own.key {d : D} {v : V} {B : List Addr} {k : Key} (e : keyOf d = some k) (h : Own K S H d v B) : v = kV k := by
  cases d <;> cases e
  · exact h.1
  · exact h.1
theorem Owns.keys : ∀ {ds : List D} {vs : List V} {B : List Addr} {ks : List Key}, keysOf ds = some ks → Owns K S H ds vs B → vs = ks.map kV
  | [], vs, B, ks, e, h => by cases e; rw [h.1]; rfl
  | d :: ds, vs, B, ks, e, h => by
    obtain ⟨v, vs', B1, B2, rfl, _, r, rs⟩ := h
    simp only [keysOf] at e
    split at e
    · rename_i p0 ps0 h1 h2
      cases e
      rw [Own.key h1 r, Owns.keys h2 rs]; rfl
    · cases e
theorem lookK_val {κ : Type} [DecidableEq κ] : ∀ (ks : List κ) (ds : List D) (vs : List V) (B : List Addr) (k : κ), ks.length = vs.length → Owns K S H ds vs B →
    match lookK ks ds k with
    | some d => ∃ v B1 B2 B3, valV (ks.zip vs) k = some v ∧ B = B1 ++ B2 ++ B3 ∧ Own K S H d v B2
    | none => valV (ks.zip vs) k = none
  | [], ds, vs, B, k, l, h => by cases ds <;> rfl
  | q :: ks, [], vs, B, k, l, h => by rw [h.1] at l; cases l
  | q :: ks, d :: ds, vs, B, k, l, h => by
    obtain ⟨v, vs', B1, B2, rfl, rfl, r, rs⟩ := h
    simp only [lookK, List.zip_cons_cons]
    by_cases e : q = k
    · rw [if_pos e]
      exact ⟨v, [], B1, B2, valV_pos (by exact e), by simp, r⟩
    · rw [if_neg e]
      have ih := lookK_val ks ds vs' B2 k (by simpa using l) rs
      have e2 : valV ((q, v) :: ks.zip vs') k = valV (ks.zip vs') k := valV_neg (by exact e)
      rw [e2]
      split
      · rename_i d' e'
        rw [e'] at ih
        obtain ⟨u, C1, C2, C3, q1, q2, q3⟩ := ih
        exact ⟨u, B1 ++ C1, C2, C3, q1, by simp [q2], q3⟩
      · rename_i e'
        rw [e'] at ih
        exact ih
theorem lookK_some {κ : Type} [DecidableEq κ] {ks : List κ} {ds : List D} {vs : List V} {B : List Addr} {k : κ} {d : D} (l : ks.length = vs.length) (h : Owns K S H ds vs B) (e : lookK ks ds k = some d) :
    ∃ v B1 B2 B3, valV (ks.zip vs) k = some v ∧ B = B1 ++ B2 ++ B3 ∧ Own K S H d v B2 := by
  have := lookK_val ks ds vs B k l h
  rw [e] at this
  exact this
theorem lookK_is {κ : Type} [DecidableEq κ] {ks : List κ} {ds : List D} {vs : List V} {B : List Addr} {k : κ} (l : ks.length = vs.length) (h : Owns K S H ds vs B) : (valV (ks.zip vs) k).isSome = (lookK ks ds k).isSome := by
  have := lookK_val ks ds vs B k l h
  split at this
  · rename_i d e
    obtain ⟨v, _, _, _, q, _⟩ := this
    rw [q, e]; rfl
  · rename_i e
    rw [this, e]; rfl
/-- a list or a tuple, whatever its mark -/
theorem Own.seqL (s : Same S H) {f : Fl} {ds : List D} {v : V} {B : List Addr} (h : Own K S H (.lst f ds) v B) : ∃ a vs B', v = .ref a ∧ H a = some (.lst vs) ∧ Owns K S H ds vs B' ∧ B'.Sublist B := by
  cases f with
  | z => obtain ⟨_, a, vs, e, q, r⟩ := h; exact ⟨a, vs, [], e, s _ _ q, r, List.nil_sublist _⟩
  | b => obtain ⟨_, a, vs, e, q, r⟩ := h; exact ⟨a, vs, [], e, q, r, List.nil_sublist _⟩
  | o => obtain ⟨a, vs, B', e, eB, q, r⟩ := h; subst eB; exact ⟨a, vs, B', e, q, r, List.sublist_cons_self _ _⟩
theorem Own.seqT (s : Same S H) {ds : List D} {v : V} {B : List Addr} (h : Own K S H (.tup ds) v B) : ∃ a vs, v = .ref a ∧ H a = some (.tup vs) ∧ Owns K S H ds vs [] := by
  obtain ⟨_, a, vs, e, q, r⟩ := h
  exact ⟨a, vs, e, s _ _ q, r⟩
theorem Own.dicR (s : Same S H) {f : Fl} {ks : List Key} {ds : List D} {v : V} {B : List Addr} (h : Own K S H (.dic f ks ds) v B) : ∃ a vs B', v = .ref a ∧ Rd H a (.dK (ks.zip vs)) ∧ KL ks vs ∧ Owns K S H ds vs B' ∧ B'.Sublist B := by
  cases f with
  | z => obtain ⟨_, a, vs, e, q, l, r⟩ := h; exact ⟨a, vs, [], e, Same.rd s q, l, r, List.nil_sublist _⟩
  | b => obtain ⟨_, a, vs, e, q, l, r⟩ := h; exact ⟨a, vs, [], e, q, l, r, List.nil_sublist _⟩
  | o => obtain ⟨a, vs, B', e, eB, q, l, r⟩ := h; subst eB; exact ⟨a, vs, B', e, .inl q, l, r, List.sublist_cons_self _ _⟩
theorem Own.ditR (s : Same S H) {f : Fl} {ks : List (List Key)} {ds : List D} {v : V} {B : List Addr} (h : Own K S H (.dit f ks ds) v B) : ∃ a vs B', v = .ref a ∧ Rd H a (.dT (ks.zip vs)) ∧ KL ks vs ∧ Owns K S H ds vs B' ∧ B'.Sublist B := by
  cases f with
  | z => obtain ⟨_, a, vs, e, q, l, r⟩ := h; exact ⟨a, vs, [], e, Same.rd s q, l, r, List.nil_sublist _⟩
  | b => obtain ⟨_, a, vs, e, q, l, r⟩ := h; exact ⟨a, vs, [], e, q, l, r, List.nil_sublist _⟩
  | o => obtain ⟨a, vs, B', e, eB, q, l, r⟩ := h; subst eB; exact ⟨a, vs, B', e, .inl q, l, r, List.sublist_cons_self _ _⟩
theorem Owns.atI {ds : List D} {vs : List V} {B : List Addr} {i : Int} {d : D} (h : Owns K S H ds vs B) (e : L2.atI ds i = some d) : ∃ v B1 B2 B3, L2.atI vs i = some v ∧ B = B1 ++ B2 ++ B3 ∧ Own K S H d v B2 := by
  have l := Owns.length ds vs B h
  unfold L2.atI at e ⊢
  rw [← l]
  cases hj : ixN ds.length i with
  | none => rw [hj] at e; cases e
  | some j =>
    rw [hj] at e
    exact Owns.get ds vs B j d h e
theorem mid_sub {α : Type} (a b c : List α) : b.Sublist (a ++ b ++ c) := by
  rw [List.append_assoc]
  exact (List.sublist_append_left b c).trans (List.sublist_append_right a _)
theorem Owns.take : ∀ (n : Nat) (ds : List D) (vs : List V) (B : List Addr), Owns K S H ds vs B → ∃ B', Owns K S H (ds.take n) (vs.take n) B' ∧ B'.Sublist B
  | 0, ds, vs, B, h => ⟨[], by simp [Owns], List.nil_sublist _⟩
  | n + 1, [], vs, B, h => by obtain ⟨rfl, rfl⟩ := h; exact ⟨[], by simp [Owns], List.nil_sublist _⟩
  | n + 1, d :: ds, vs, B, h => by
    obtain ⟨v, vs', B1, B2, rfl, rfl, r, rs⟩ := h
    obtain ⟨B', q, s⟩ := Owns.take n ds vs' B2 rs
    exact ⟨B1 ++ B', ⟨v, vs'.take n, B1, B', rfl, rfl, r, q⟩, List.Sublist.append (List.Sublist.refl _) s⟩
theorem Owns.drop : ∀ (n : Nat) (ds : List D) (vs : List V) (B : List Addr), Owns K S H ds vs B → ∃ B', Owns K S H (ds.drop n) (vs.drop n) B' ∧ B'.Sublist B
  | 0, ds, vs, B, h => ⟨B, h, List.Sublist.refl _⟩
  | n + 1, [], vs, B, h => by obtain ⟨rfl, rfl⟩ := h; exact ⟨[], by simp [Owns], List.nil_sublist _⟩
  | n + 1, d :: ds, vs, B, h => by
    obtain ⟨v, vs', B1, B2, rfl, rfl, r, rs⟩ := h
    obtain ⟨B', q, s⟩ := Owns.drop n ds vs' B2 rs
    exact ⟨B', q, s.trans (List.sublist_append_right _ _)⟩
theorem Owns.cut {ds : List D} {vs : List V} {B : List Addr} (lo hi : Option Int) (h : Owns K S H ds vs B) : ∃ B', Owns K S H (cutD ds lo hi) (cutV vs lo hi) B' ∧ B'.Sublist B := by
  have l := Owns.length ds vs B h
  unfold cutD cutV
  rw [l]
  obtain ⟨B1, q1, s1⟩ := Owns.drop (HT.sIx vs.length 0 lo) ds vs B h
  obtain ⟨B2, q2, s2⟩ := Owns.take (HT.sIx vs.length vs.length hi - HT.sIx vs.length 0 lo) _ _ B1 q1
  exact ⟨B2, q2, s2.trans s1⟩
theorem Owns.rep : ∀ (k : Nat) {ds : List D} {vs : List V}, Owns K S H ds vs [] → Owns K S H (List.replicate k ds).flatten (List.replicate k vs).flatten []
  | 0, ds, vs, h => by simp [Owns]
  | k + 1, ds, vs, h => by
    rw [List.replicate_succ, List.replicate_succ, List.flatten_cons, List.flatten_cons]
    exact Owns.append ds vs [] _ _ [] h (Owns.rep k h)
theorem sortIns_perm (x : Int) : ∀ xs, (sortIns x xs).Perm (x :: xs)
  | [] => List.Perm.refl _
  | y :: ys => by
    unfold sortIns
    split
    · exact List.Perm.refl _
    · exact ((sortIns_perm x ys).cons y).trans (List.Perm.swap x y ys)
theorem sortI_perm : ∀ xs, (sortI xs).Perm xs
  | [] => List.Perm.refl _
  | x :: xs => (sortIns_perm x (sortI xs)).trans ((sortI_perm xs).cons x)
theorem sortIns_sorted (x : Int) : ∀ xs, xs.Pairwise (· ≤ ·) → (sortIns x xs).Pairwise (· ≤ ·)
  | [], _ => by simp [sortIns]
  | y :: ys, h => by
    unfold sortIns
    obtain ⟨h1, h2⟩ := List.pairwise_cons.mp h
    split
    · rename_i hxy
      refine List.pairwise_cons.mpr ⟨fun z hz => ?_, h⟩
      rcases List.mem_cons.mp hz with rfl | hz
      · exact hxy
      · exact Int.le_trans hxy (h1 z hz)
    · rename_i hxy
      refine List.pairwise_cons.mpr ⟨fun z hz => ?_, sortIns_sorted x ys h2⟩
      rcases List.mem_cons.mp ((sortIns_perm x ys).mem_iff.mp hz) with rfl | hz
      · omega
      · exact h1 z hz
theorem sortI_sorted : ∀ xs, (sortI xs).Pairwise (· ≤ ·)
  | [] => List.Pairwise.nil
  | x :: xs => sortIns_sorted x _ (sortI_sorted xs)
theorem sortI_eq {xs ys : List Int} (p : ys.Perm xs) (s : ys.Pairwise (· ≤ ·)) : ys = sortI xs :=
  (p.trans (sortI_perm xs).symm).eq_of_pairwise (fun _ _ _ _ h1 h2 => Int.le_antisymm h1 h2) s (sortI_sorted xs)
theorem Owns.ints : ∀ {ds : List D} {vs : List V} {B : List Addr} {ns : List Int}, intsOf ds = some ns → Owns K S H ds vs B → vs = ns.map V.int
  | [], vs, B, ns, e, h => by cases e; rw [h.1]; rfl
  | d :: ds, vs, B, ns, e, h => by
    obtain ⟨v, vs', B1, B2, rfl, _, r, rs⟩ := h
    cases d <;> simp only [intsOf] at e <;> try (cases e)
    obtain ⟨ms, e1, rfl⟩ := Option.map_eq_some_iff.mp e
    rw [r.1, Owns.ints e1 rs]; rfl
theorem owns_ints : ∀ (ns : List Int), Owns K S H (ns.map .int) (ns.map V.int) []
  | [] => ⟨rfl, rfl⟩
  | n :: ns => ⟨_, _, [], [], rfl, rfl, ⟨rfl, rfl⟩, owns_ints ns⟩
theorem kints_eq : ∀ {ks : List Key} {ns : List Int}, kintsOf ks = some ns → ks = ns.map Sum.inl
  | [], ns, e => by cases e; rfl
  | .inl i :: ks, ns, e => by
    obtain ⟨ms, e1, rfl⟩ := Option.map_eq_some_iff.mp e
    rw [kints_eq e1]; rfl
  | .inr i :: ks, ns, e => nomatch e
theorem mulOk_ok {i j : Int} (h : mulOk i j = true) : CMul i j := of_decide_eq_true (p := (-(2 ^ 64) < i ∧ i < 2 ^ 64) ∨ (-(2 ^ 64) < j ∧ j < 2 ^ 64)) h
theorem divOk_ok {i j : Int} (h : divOk j = true) : CDiv i j := of_decide_eq_true (p := 0 < j ∧ j < 1073741824) h
theorem powOk_ok {i j : Int} (h : powOk i j = true) : CPow i j := of_decide_eq_true (p := 0 ≤ j ∧ j ≤ 1000000 ∧ i.natAbs < 2 ^ 64) h
/-! ### the operations are right -/
theorem binC {op : BinK} {x y d : D} {v u : V} {B1 B2 : List Addr} {Q : VK} (e : dBin op x y = some d) (f : Fut S0 H0 S H) (h1 : Own K S H x v B1) (h2 : Own K S H y u B2) (r : Fresh H0 S (B1 ++ B2)) (k : KE K S0 H0 d Q) : rBin K op v u H Q := by
  unfold dBin at e
  split at e <;> try (cases e)
  · exact .inl ⟨_, _, h1.1, h2.1, k.int f⟩
  · split at e <;> cases e
    rename_i l
    exact .inr (.inl ⟨_, _, h1.1, h2.1, of_decide_eq_true l, k.str f⟩)
  · split at e <;> cases e
    rename_i l
    obtain ⟨a, vs, C1, e1, q1, o1, s1⟩ := Own.seqL f.sub h1
    obtain ⟨b, us, C2, e2, q2, o2, s2⟩ := Own.seqL f.sub h2
    have l1 := Owns.length _ _ _ o1
    have l2 := Owns.length _ _ _ o2
    exact .inr (.inr ⟨a, b, vs, us, e1, e2, q1, q2, by rw [← l1, ← l2]; exact of_decide_eq_true l, fun p n => k.newL f (Owns.append _ _ _ _ _ _ o1 o2) (r.sub (s1.append s2)) n⟩)
  · exact ⟨_, _, h1.1, h2.1, k.int f⟩
  · split at e <;> cases e
    rename_i l
    exact .inl ⟨_, _, h1.1, h2.1, mulOk_ok l, k.int f⟩
  · split at e <;> cases e
    rename_i l
    simp only [Bool.and_eq_true, decide_eq_true_eq] at l
    obtain ⟨⟨l1, l2, l3⟩, l4⟩ := l
    obtain ⟨a, vs, C1, e1, q1, o1, s1⟩ := Own.seqL f.sub h1
    obtain ⟨_, o1⟩ := Owns.ofZ (H' := H) _ _ _ l1 o1
    have ll := Owns.length _ _ _ o1
    exact .inr ⟨a, _, vs, e1, h2.1, q1, l2, l3, by rw [← ll]; exact of_decide_eq_true l4, fun p n => k.newL f (Owns.rep _ o1) .nil n⟩
  · split at e <;> cases e
    rename_i l
    exact ⟨_, _, h1.1, h2.1, divOk_ok l, k.int f⟩
  · split at e <;> cases e
    rename_i l
    exact ⟨_, _, h1.1, h2.1, of_decide_eq_true l, k.int f⟩
  · split at e <;> cases e
    rename_i l
    exact ⟨_, _, h1.1, h2.1, powOk_ok l, k.int f⟩
  · exact ⟨_, _, h1.1, h2.1, k.int f⟩
theorem getC {x y d : D} {v u : V} {B1 B2 : List Addr} (s : Same S H) (e : dIx x y = some d) (h1 : Own K S H x v B1) (h2 : Own K S H y u B2) : ∃ w B', Own K S H d w B' ∧ B'.Sublist B1 ∧ ∀ Q : VK, Q w H → rIxA K v u H Q := by
  unfold dIx at e
  split at e
  · obtain ⟨a, vs, C1, e1, q1, o1, s1⟩ := Own.seqL s h1
    obtain ⟨w, D1, D2, D3, q, rfl, ow⟩ := Owns.atI o1 e
    exact ⟨w, D2, ow, (mid_sub D1 D2 D3).trans s1, fun Q k => .inl ⟨a, vs, _, w, e1, h2.1, .inl (.inl q1), q, k⟩⟩
  · obtain ⟨a, vs, e1, q1, o1⟩ := Own.seqT s h1
    obtain ⟨w, D1, D2, D3, q, eB, ow⟩ := Owns.atI o1 e
    have : D2 = [] := by
      have := eB.symm
      simp at this
      exact this.2.1
    subst this
    exact ⟨w, [], ow, List.nil_sublist _, fun Q k => .inr (.inl ⟨a, vs, _, w, e1, h2.1, .inl (.inl q1), q, k⟩)⟩
  · obtain ⟨n, e0, rfl⟩ := Option.map_eq_some_iff.mp e
    obtain ⟨_, a, e1, q1⟩ := h1
    refine ⟨.int n, [], ⟨rfl, rfl⟩, List.nil_sublist _, fun Q k => .inl ⟨a, _, _, .int n, e1, h2.1, Same.seq s q1.seq, ?_, k⟩⟩
    unfold L2.atI at e0 ⊢
    rw [List.length_map]
    cases hj : ixN _ _ with
    | none => rw [hj] at e0; cases e0
    | some j =>
      rw [hj] at e0
      simp only [Option.bind_some] at e0
      simp only [Option.bind_some, List.getElem?_map, e0, Option.map_some]
  · obtain ⟨q0, k0, e0⟩ := Option.bind_eq_some_iff.mp e
    obtain ⟨a, vs, C1, e1, q1, l, o1, s1⟩ := Own.dicR s h1
    obtain ⟨w, D1, D2, D3, q, rfl, ow⟩ := lookK_some l.1 o1 e0
    refine ⟨w, D2, ow, (mid_sub D1 D2 D3).trans s1, fun Q k => .inr (.inr ⟨a, w, e1, .inl ⟨_, q0, q1, Own.key k0 h2, q.symm⟩, k⟩)⟩
  · obtain ⟨q0, k0, e0⟩ := Option.bind_eq_some_iff.mp e
    obtain ⟨a, vs, C1, e1, q1, l, o1, s1⟩ := Own.ditR s h1
    obtain ⟨w, D1, D2, D3, q, rfl, ow⟩ := lookK_some l.1 o1 e0
    obtain ⟨b, us, e2, q2, o2⟩ := Own.seqT s h2
    refine ⟨w, D2, ow, (mid_sub D1 D2 D3).trans s1, fun Q k => .inr (.inr ⟨a, w, e1, .inr ⟨_, q0, b, q1, e2, by rw [← Owns.keys k0 o2]; exact q2, q.symm⟩, k⟩)⟩
  · cases e
theorem ixC {x y d : D} {v u : V} {B1 B2 : List Addr} {Q : VK} (e : dIx x y = some d) (f : Fut S0 H0 S H) (h1 : Own K S H x v B1) (h2 : Own K S H y u B2) (r : Fresh H0 S (B1 ++ B2)) (k : KE K S0 H0 d Q) : rIxA K v u H Q := by
  obtain ⟨w, B', o, s, q⟩ := getC f.sub e h1 h2
  exact q Q (k w S H B' f o (r.sub (s.trans (List.sublist_append_left _ _))))
theorem dEq_val {x y : D} {b : Bool} {v u : V} {B1 B2 : List Addr} (s : Same S H) (e : dEq x y = some b) (h1 : Own K S H x v B1) (h2 : Own K S H y u B2) : ∃ p q, Dp K H v p ∧ Dp K H u q ∧ SeqAt.shaped p = true ∧ SeqAt.shaped q = true ∧ b = PyData.eqv p q := by
  unfold dEq at e
  split at e
  · rename_i p q e1 e2
    split at e <;> cases e
    rename_i l
    rw [Bool.and_eq_true] at l
    exact ⟨p, q, Own.dp s _ _ _ p e1 h1, Own.dp s _ _ _ q e2 h2, l.1, l.2, rfl⟩
  · cases e
theorem dIn_val {x y : D} {b : Bool} {v u : V} {B1 B2 : List Addr} (s : Same S H) (e : dIn x y = some b) (h1 : Own K S H x v B1) (h2 : Own K S H y u B2) :
    (∃ d ds, Dp K H v d ∧ Dp K H u (.list ds) ∧ SeqAt.shaped d = true ∧ SeqAt.shaped (.list ds) = true ∧ b = ds.any fun z => PyData.eqv z d) ∨ ∃ a o, u = .ref a ∧ DGet H a v o ∧ b = o.isSome := by
  unfold dIn at e
  split at e
  · split at e
    · rename_i f ds _ _ p ps e1 e2
      split at e <;> cases e
      rename_i l
      rw [Bool.and_eq_true] at l
      exact .inl ⟨p, ps, Own.dp s _ _ _ p e1 h1, Own.dp s _ _ _ (.list ps) (by simp [toP, e2]) h2, l.1, l.2, rfl⟩
    · cases e
  · obtain ⟨k, e1, rfl⟩ := Option.map_eq_some_iff.mp e
    obtain ⟨a, vs, C1, e3, q1, l, o1, s1⟩ := Own.dicR s h2
    exact .inr ⟨a, valV _ k, e3, .inl ⟨_, k, q1, Own.key e1 h1, rfl⟩, (lookK_is l.1 o1).symm⟩
  · split at e
    · obtain ⟨k, e1, rfl⟩ := Option.map_eq_some_iff.mp e
      obtain ⟨a, vs, C1, e3, q1, l, o1, s1⟩ := Own.ditR s h2
      obtain ⟨b, us, e2, q2, o2⟩ := Own.seqT s h1
      exact .inr ⟨a, valV _ k, e3, .inr ⟨_, k, b, q1, e2, by rw [← Owns.keys e1 o2]; exact q2, rfl⟩, (lookK_is l.1 o1).symm⟩
    · cases e
  · cases e
theorem cmpC {op : CmpK} {x y d : D} {v u : V} {B1 B2 : List Addr} {Q : VK} (e : dCmp op x y = some d) (s : Same S H) (h1 : Own K S H x v B1) (h2 : Own K S H y u B2) (k : ∀ b, d = .bl b → Q (.bl b) H) : rCmp K op v u H Q := by
  unfold dCmp at e
  split at e
  · obtain ⟨b, e1, rfl⟩ := Option.map_eq_some_iff.mp e
    obtain ⟨p, q, a1, a2, a3, a4, rfl⟩ := dEq_val s e1 h1 h2
    exact ⟨p, q, a1, a2, a3, a4, k _ rfl⟩
  · obtain ⟨b, e1, rfl⟩ := Option.map_eq_some_iff.mp e
    obtain ⟨p, q, a1, a2, a3, a4, rfl⟩ := dEq_val s e1 h1 h2
    exact ⟨p, q, a1, a2, a3, a4, k _ rfl⟩
  · cases e; exact ⟨_, _, h1.1, h2.1, k _ rfl⟩
  · cases e; exact ⟨_, _, h1.1, h2.1, k _ rfl⟩
  · cases e; exact ⟨_, _, h1.1, h2.1, k _ rfl⟩
  · cases e; exact ⟨_, _, h1.1, h2.1, k _ rfl⟩
  · obtain ⟨b, e1, rfl⟩ := Option.map_eq_some_iff.mp e
    rcases dIn_val s e1 h1 h2 with ⟨p, q, a1, a2, a3, a4, rfl⟩ | ⟨a, o, a1, a2, rfl⟩
    · exact .inl ⟨p, q, a1, a2, a3, a4, k _ rfl⟩
    · exact .inr ⟨a, o, a1, a2, k _ rfl⟩
  · obtain ⟨b, e1, rfl⟩ := Option.map_eq_some_iff.mp e
    rcases dIn_val s e1 h1 h2 with ⟨p, q, a1, a2, a3, a4, rfl⟩ | ⟨a, o, a1, a2, rfl⟩
    · exact .inl ⟨p, q, a1, a2, a3, a4, k _ rfl⟩
    · exact .inr ⟨a, o, a1, a2, k _ rfl⟩
  · cases e
theorem dCmp_bl {op : CmpK} {x y d : D} (e : dCmp op x y = some d) : ∃ b, d = .bl b := by
  unfold dCmp at e
  split at e <;> first | (obtain ⟨b, e1, rfl⟩ := Option.map_eq_some_iff.mp e; exact ⟨_, rfl⟩) | (cases e; exact ⟨_, rfl⟩) | cases e
theorem cutC {x d : D} {lo hi : Option Int} {v : V} {B : List Addr} {Q : VK} (e : dCut x lo hi = some d) (f : Fut S0 H0 S H) (h : Own K S H x v B) (r : Fresh H0 S B) (k : KE K S0 H0 d Q) : rSlA K v lo hi H Q := by
  unfold dCut at e
  split at e <;> cases e
  · obtain ⟨a, vs, C1, e1, q1, o1, s1⟩ := Own.seqL f.sub h
    obtain ⟨B', o2, s2⟩ := Owns.cut lo hi o1
    exact .inl ⟨a, vs, e1, .inl (.inl q1), fun p n => k.newL f o2 (r.sub (s2.trans s1)) n⟩
theorem isEmpty_len {α β : Type} : ∀ {xs : List α} {ys : List β}, xs.length = ys.length → (!xs.isEmpty) = !ys.isEmpty
  | [], [], _ => rfl
  | _ :: _, _ :: _, _ => rfl
theorem truC {x : D} {b : Bool} {v : V} {B : List Addr} (s : Same S H) (e : dTru x = some b) (h : Own K S H x v B) : TruV K v H b := by
  unfold dTru at e
  split at e
  · cases e; rw [h.1]; exact rfl
  · cases e; rw [h.1]; exact rfl
  · cases e; rw [h.1]; exact rfl
  · split at e <;> cases e
    rename_i l
    rw [h.1]; exact ⟨of_decide_eq_true l, rfl⟩
  · cases e
    obtain ⟨a, vs, C1, e1, q1, o1, s1⟩ := Own.seqL s h
    have l := Owns.length _ _ _ o1
    rw [e1]
    refine .inl ⟨vs, .inl (.inl q1), ?_⟩
    exact isEmpty_len l
  · cases e
    obtain ⟨a, vs, e1, q1, o1⟩ := Own.seqT s h
    have l := Owns.length _ _ _ o1
    rw [e1]
    refine .inr (.inl ⟨vs, .inl (.inl q1), ?_⟩)
    exact isEmpty_len l
  · cases e
theorem bC {b : BK} {x d : D} {v : V} {B : List Addr} {Q : VK} (e : dB b x = some d) (f : Fut S0 H0 S H) (h : Own K S H x v B) (r : Fresh H0 S B) (k : KE K S0 H0 d Q) : rB K b [v] H Q := by
  unfold dB at e
  split at e
  · cases e
    obtain ⟨a, vs, C1, e1, q1, o1, s1⟩ := Own.seqL f.sub h
    have l := Owns.length _ _ _ o1
    rw [e1]
    exact ⟨_, _, rfl, .inl ⟨vs, .inl (.inl q1), l⟩, k.int f⟩
  · cases e
    obtain ⟨a, vs, e1, q1, o1⟩ := Own.seqT f.sub h
    have l := Owns.length _ _ _ o1
    rw [e1]
    exact ⟨_, _, rfl, .inr ⟨vs, .inl (.inl q1), l⟩, k.int f⟩
  · cases e
    obtain ⟨_, a, e1, q1⟩ := h
    rw [e1]
    exact ⟨_, _, rfl, .inl ⟨_, Same.seq f.sub q1.seq, by rw [List.length_map]⟩, k.int f⟩
  · split at e <;> cases e
    rename_i l
    rw [h.1]
    exact ⟨_, _, rfl, ⟨of_decide_eq_true l, rfl⟩, k.int f⟩
  · cases e; rw [h.1]; exact ⟨_, rfl, k.int f⟩
  · cases e; rw [h.1]; exact .inl ⟨_, rfl, k.int f⟩
  · cases e; rw [h.1]; exact .inr ⟨_, rfl, k.int f⟩
  · cases e
    obtain ⟨a, vs, C1, e1, q1, o1, s1⟩ := Own.seqL f.sub h
    rw [e1]
    exact ⟨a, vs, rfl, .inl (.inl (.inl q1)), fun p n => k.newL f o1 (r.sub s1) n⟩
  · cases e
    obtain ⟨a, vs, e1, q1, o1⟩ := Own.seqT f.sub h
    rw [e1]
    exact ⟨a, vs, rfl, .inr (.inl (.inl q1)), fun p n => k.newL f o1 .nil n⟩
  · split at e <;> cases e
    rename_i c
    obtain ⟨a, vs, C1, e1, q1, o1, s1⟩ := Own.seqL f.sub h
    rw [e1]
    exact ⟨a, vs, rfl, .inl ⟨.inl (.inl q1), fun p n => k.newT f o1 c (r.sub s1) n⟩⟩
  · cases e
    have h' := h
    obtain ⟨a, vs, e1, q1, o1⟩ := Own.seqT f.sub h
    rw [e1]
    refine ⟨a, vs, rfl, .inr ⟨.inl (.inl q1), ?_⟩⟩
    rw [e1] at h'
    exact k _ S H B f h' r
  · obtain ⟨ns, e1, e2⟩ := Option.bind_eq_some_iff.mp e
    cases e2
    obtain ⟨a, vs, C1, e3, q1, o1, s1⟩ := Own.seqL f.sub h
    rw [Owns.ints e1 o1] at q1
    rw [e3]
    refine .inl ⟨a, ns, rfl, .inl (.inl q1), fun ns' p pe ps n => ?_⟩
    rw [sortI_eq pe ps]
    exact k.newL f (owns_ints _) .nil n
  · obtain ⟨ns, e1, e2⟩ := Option.bind_eq_some_iff.mp e
    split at e2 <;> cases e2
    rename_i l64
    obtain ⟨a, vs, C1, e3, q1, l, o1, s1⟩ := Own.dicR f.sub h
    rw [e3]
    refine .inr ⟨a, _, ns, rfl, q1, ?_, l64, fun ns' p pe ps n => ?_⟩
    · rw [← kints_eq e1, List.map_fst_zip (Nat.le_of_eq l.1)]
    · rw [sortI_eq pe ps]
      exact k.newL f (owns_ints _) .nil n
  · cases e
theorem tyC {x : D} {v : V} {B : List Addr} (h : Own K S H x v B) (s : Same S H) (n : ∀ c ks ds, x ≠ .obj c ks ds) (n2 : ∀ f ks ds, x ≠ .dit f ks ds) (n3 : ∀ ns, x ≠ .scr ns) : TyX K H v (.type (tyName x)) := by
  cases x with
  | non => rw [h.1]; exact .base .non
  | bl b => rw [h.1]; exact .base (.bl _)
  | int i => rw [h.1]; exact .base (.int _)
  | str z => rw [h.1]; exact .base (.str _)
  | tup ds => obtain ⟨a, vs, e1, q1, o1⟩ := Own.seqT s h; rw [e1]; exact .base (.tup q1)
  | lst f ds =>
    obtain ⟨a, vs, C1, e1, q1, o1, s1⟩ := Own.seqL s h
    rw [e1]
    exact .base (.lst q1)
  | dic f ks ds =>
    obtain ⟨a, vs, C1, e1, q1, l, o1, s1⟩ := Own.dicR s h
    rw [e1]
    rcases q1 with q1 | ⟨o, q1⟩
    · exact .base (.dK q1)
    · exact .fDict q1
  | dit f ks ds => exact absurd rfl (n2 _ _ _)
  | scr ns => exact absurd rfl (n3 _)
  | obj c ks ds => exact absurd rfl (n _ _ _)
end EV
namespace EV
open PySem L2
variable {K : PySem.W.Frag} {S S' H H' S0 H0 S1 H1 : Hp} {σ : St} {env env' : Env} {As : Nat → List Addr} {E : XK} {XR : Exc → Value → Option Addr → Hp → Prop}
mutual
theorem isZ_clean : ∀ d : D, isZ d = true → clean d = true
  | .non, _ => rfl | .bl _, _ => rfl | .int _, _ => rfl | .str _, _ => rfl | .scr _, _ => rfl
  | .tup ds, z => isZs_cleans ds z
  | .lst f ds, z => by simp only [isZ, Bool.and_eq_true, decide_eq_true_eq] at z; simp [clean, z.1, isZs_cleans ds z.2]
  | .dic f ks ds, z => by simp only [isZ, Bool.and_eq_true, decide_eq_true_eq] at z; simp [clean, z.1, isZs_cleans ds z.2]
  | .dit f ks ds, z => by simp only [isZ, Bool.and_eq_true, decide_eq_true_eq] at z; simp [clean, z.1, isZs_cleans ds z.2]
  | .obj c ks ds, z => isZs_cleans ds z
theorem isZs_cleans : ∀ ds : List D, isZs ds = true → cleans ds = true
  | [], _ => rfl
  | d :: ds, z => by simp only [isZs, Bool.and_eq_true] at z; simp [cleans, isZ_clean d z.1, isZs_cleans ds z.2]
end
mutual
theorem isZ_zz : ∀ d : D, isZ (zz d) = true
  | .non => rfl | .bl _ => rfl | .int _ => rfl | .str _ => rfl | .scr _ => rfl
  | .tup ds => isZs_zzs ds
  | .lst f ds => by simp [zz, isZ, isZs_zzs ds]
  | .dic f ks ds => by simp [zz, isZ, isZs_zzs ds]
  | .dit f ks ds => by simp [zz, isZ, isZs_zzs ds]
  | .obj c ks ds => isZs_zzs ds
theorem isZs_zzs : ∀ ds : List D, isZs (zzs ds) = true
  | [] => rfl
  | d :: ds => by simp [zzs, isZs, isZ_zz d, isZs_zzs ds]
end
/-! ### slots stored -/
theorem Sta.set {i : Nat} {d : D} {v : V} {B : List Addr} (s : Sta K S H σ env As) (hi : i < env.length) (o : Own K S H d v B) (nd : B.Nodup) (new : ∀ p ∈ B, S p = none ∧ ∀ j, j ≠ i → p ∉ As j) :
    Sta K S H (σ.set i (some v)) (env.set i (some d)) (fun j => if j = i then B else As j) := by
  have hi' : i < σ.length := by rw [s.len]; exact hi
  refine ⟨s.sub, by simp [s.len], fun j d' e => ?_, fun j e => ?_, fun j => ?_, fun j k hjk p hp => ?_, fun j p hp => ?_⟩
  · by_cases h : j = i
    · subst h
      rw [List.getElem?_set_self hi] at e
      cases e
      exact ⟨v, List.getElem?_set_self hi', by simpa using o⟩
    · rw [List.getElem?_set_ne (Ne.symm h)] at e
      obtain ⟨v', h1, h2⟩ := s.val j d' e
      exact ⟨v', by rw [List.getElem?_set_ne (Ne.symm h)]; exact h1, by simpa [h] using h2⟩
  · by_cases h : j = i
    · subst h
      exact absurd (List.getElem?_set_self hi) (e d)
    · simp only [h, if_false]
      exact s.emp j fun d' e' => e d' (by rw [List.getElem?_set_ne (Ne.symm h)]; exact e')
  · try dsimp only
    split
    · exact nd
    · exact s.nd j
  · try dsimp only at hp ⊢
    split at hp
    · rename_i h
      subst h
      rw [if_neg (Ne.symm hjk)]
      exact (new p hp).2 k (Ne.symm hjk)
    · split
      · rename_i h h2
        subst h2
        exact fun z => (new p z).2 j h hp
      · exact s.dj j k hjk p hp
  · try dsimp only at hp
    split at hp
    · exact (new p hp).1
    · exact s.out j p hp
theorem wipe_get : ∀ (vs : List Nat) (σ : St) (j : Nat), (wipe σ vs)[j]? = if j ∈ vs then (if j < σ.length then some none else none) else σ[j]?
  | [], σ, j => by simp [wipe]
  | v :: vs, σ, j => by
    unfold wipe
    by_cases h : v = j
    · subst h
      simp only [List.mem_cons, true_or, if_true]
      by_cases hl : v < σ.length
      · rw [List.getElem?_set_self (by rw [wipe_length]; exact hl), if_pos hl]
      · rw [List.getElem?_eq_none (by simp [wipe_length]; omega), if_neg hl]
    · rw [List.getElem?_set_ne h, wipe_get vs σ j]
      have h' : ¬ j = v := fun e => h e.symm
      simp [h']
theorem wipeE_length (env : Env) : ∀ vs : List Nat, (wipeE env vs).length = env.length
  | [] => rfl
  | v :: vs => by unfold wipeE; rw [List.length_set, wipeE_length env vs]
theorem wipeE_get : ∀ (vs : List Nat) (env : Env) (j : Nat), (wipeE env vs)[j]? = if j ∈ vs then (if j < env.length then some none else none) else env[j]?
  | [], env, j => by simp [wipeE]
  | v :: vs, env, j => by
    unfold wipeE
    by_cases h : v = j
    · subst h
      simp only [List.mem_cons, true_or, if_true]
      by_cases hl : v < env.length
      · rw [List.getElem?_set_self (by rw [wipeE_length]; exact hl), if_pos hl]
      · rw [List.getElem?_eq_none (by simp [wipeE_length]; omega), if_neg hl]
    · rw [List.getElem?_set_ne h, wipeE_get vs env j]
      have h' : ¬ j = v := fun e => h e.symm
      simp [h']
theorem Sta.wipe (s : Sta K S H σ env As) (vs : List Nat) : Sta K S H (L2.wipe σ vs) (wipeE env vs) (fun j => if j ∈ vs then [] else As j) := by
  refine ⟨s.sub, by rw [wipe_length, wipeE_length, s.len], fun j d e => ?_, fun j e => ?_, fun j => ?_, fun j k hjk p hp => ?_, fun j p hp => ?_⟩
  · rw [wipeE_get] at e
    by_cases h : j ∈ vs
    · rw [if_pos h] at e
      split at e <;> cases e
    · rw [if_neg h] at e
      obtain ⟨v, h1, h2⟩ := s.val j d e
      exact ⟨v, by rw [wipe_get, if_neg h]; exact h1, by simpa [h] using h2⟩
  · by_cases h : j ∈ vs
    · simp [h]
    · simp only [h, if_false]
      exact s.emp j fun d e' => e d (by rw [wipeE_get, if_neg h]; exact e')
  · try dsimp only
    split
    · exact List.nodup_nil
    · exact s.nd j
  · try dsimp only at hp ⊢
    split at hp
    · cases hp
    · split
      · exact fun z => nomatch z
      · exact s.dj j k hjk p hp
  · try dsimp only at hp
    split at hp
    · cases hp
    · exact s.out j p hp
theorem wipe_same {vs : List Nat} {σ σ' : St} (l : σ'.length = σ.length) (h : ∀ j, j ∉ vs → σ'[j]? = (wipe σ vs)[j]?) : wipe σ' vs = wipe σ vs := by
  apply List.ext_getElem?
  intro j
  rw [wipe_get]
  by_cases hj : j ∈ vs
  · rw [if_pos hj, wipe_get, if_pos hj, l]
  · rw [if_neg hj]; exact h j hj
/-! ### targets -/
def gAll : List Nat → TGs
  | [] => gNil
  | i :: is => gCons (gName i) (gAll is)
def gT (K : PySem.W.Frag) : Tg → TG
  | .name i => gName i
  | .tup is => gTup K is.length (gAll is)
theorem setAllC : ∀ {is : List Nat} {ds : List D} {vs : List V} {env env' : Env} {σ : St} {As : Nat → List Addr} {Q : St → Hp → Prop}, Sta K S H σ env As → setAll is ds env = .ok env' → Owns K S H ds vs [] →
    (∀ σ' As', Sta K S H σ' env' As' → σ'.length = σ.length → (∀ j, j ∉ is → σ'[j]? = σ[j]?) → (∀ j, ∀ p ∈ As' j, p ∈ As j) → Q σ' H) → gAll is vs σ H Q
  | [], [], vs, env, env', σ, As, Q, s, e, o, k => by
    cases e
    exact ⟨o.1, k σ As s rfl (fun _ _ => rfl) fun _ _ z => z⟩
  | i :: is, d :: ds, vs, env, env', σ, As, Q, s, e, o, k => by
    obtain ⟨v, vs', B1, B2, rfl, eB, r, rs⟩ := o
    obtain ⟨rfl, rfl⟩ : B1 = [] ∧ B2 = [] := by
      have := eB.symm
      simpa using this
    simp only [setAll] at e
    split at e
    · rename_i hi
      have s2 := s.set (d := d) (v := v) (B := []) hi r List.nodup_nil (fun _ z => nomatch z)
      refine ⟨v, vs', rfl, setAllC s2 e rs fun σ' As' st l h hA => k σ' As' st (by rw [l, List.length_set]) (fun j hj => ?_) fun j p hp => ?_⟩
      · simp only [List.mem_cons, not_or] at hj
        rw [h j hj.2, List.getElem?_set_ne (Ne.symm hj.1)]
      · have := hA j p hp
        split at this
        · cases this
        · exact this
    · cases e
  | [], d :: ds, vs, env, env', σ, As, Q, s, e, o, k => by simp [setAll] at e
  | i :: is, [], vs, env, env', σ, As, Q, s, e, o, k => by simp [setAll] at e
theorem setTgC {t : Tg} {d : D} {v : V} {Q : St → Hp → Prop} (s : Sta K S H σ env As) (e : setTg t d env = .ok env') (o : Own K S H d v []) 
    (k : ∀ σ' As', Sta K S H σ' env' As' → σ'.length = σ.length → (∀ j, j ∉ t.slots → σ'[j]? = σ[j]?) → (∀ j, ∀ p ∈ As' j, p ∈ As j) → Q σ' H) : gT K t v σ H Q := by
  cases t with
  | name i =>
    simp only [setTg] at e
    split at e
    · rename_i h
      cases e
      simp only [decide_eq_true_eq] at h
      refine k _ _ (s.set (d := d) (v := v) (B := []) h o List.nodup_nil (fun _ z => nomatch z)) (List.length_set ..) (fun j hj => ?_) fun j p hp => ?_
      · simp only [Tg.slots, List.mem_singleton] at hj
        exact List.getElem?_set_ne (Ne.symm hj)
      · split at hp
        · cases hp
        · exact hp
    · cases e
  | tup is =>
    simp only [setTg] at e
    split at e
    · rename_i ds
      obtain ⟨a, vs, e1, q1, o1⟩ := Own.seqT s.sub o
      have l := Owns.length _ _ _ o1
      have l2 : ∀ (is : List Nat) (ds : List D) (env env' : Env), setAll is ds env = .ok env' → is.length = ds.length := fun is => by
        induction is with
        | nil => intro ds env env' e; cases ds <;> simp_all [setAll]
        | cons i is ih =>
          intro ds env env' e
          cases ds with
          | nil => simp [setAll] at e
          | cons d ds =>
            simp only [setAll] at e
            split at e
            · simp [ih _ _ _ e]
            · cases e
      exact ⟨a, vs, e1, .inl (.inl q1), by rw [← l, l2 _ _ _ _ e], setAllC s e o1 k⟩
    · cases e
/-- what was stored is shared, where the item was -/
theorem setAll_z : ∀ {is : List Nat} {ds : List D} {env env' : Env}, setAll is ds env = .ok env' → isZs ds = true → ∀ (i : Nat) (d : D), env'[i]? = some (some d) → env[i]? = some (some d) ∨ isZ d = true
  | [], [], env, env', e, z, i, d, h => by cases e; exact .inl h
  | j :: is, x :: ds, env, env', e, z, i, d, h => by
    simp only [setAll] at e
    simp only [isZs, Bool.and_eq_true] at z
    split at e
    · rename_i hj
      rcases setAll_z e z.2 i d h with h | h
      · by_cases hij : i = j
        · subst hij
          rw [List.getElem?_set_self hj] at h
          cases h
          exact .inr z.1
        · rw [List.getElem?_set_ne (Ne.symm hij)] at h
          exact .inl h
      · exact .inr h
    · cases e
  | [], d :: ds, env, env', e, z, i, x, h => by simp [setAll] at e
  | j :: is, [], env, env', e, z, i, x, h => by simp [setAll] at e
theorem setTg_z {t : Tg} {d : D} (e : setTg t d env = .ok env') (z : isZ d = true) (i : Nat) (x : D) (h : env'[i]? = some (some x)) : env[i]? = some (some x) ∨ isZ x = true := by
  cases t with
  | name j =>
    simp only [setTg] at e
    split at e
    · rename_i hj
      cases e
      simp only [decide_eq_true_eq] at hj
      by_cases hij : i = j
      · subst hij
        rw [List.getElem?_set_self hj] at h
        cases h
        exact .inr z
      · rw [List.getElem?_set_ne (Ne.symm hij)] at h
        exact .inl h
    · cases e
  | tup is =>
    simp only [setTg] at e
    split at e
    · exact setAll_z e (by simpa [isZ] using z) i x h
    · cases e
theorem setAll_ne : ∀ (is : List Nat) (ds : List D) (env : Env) (x : Exc), setAll is ds env ≠ .ex x
  | [], [], env, x, h => nomatch h
  | j :: is, d :: ds, env, x, h => by
    simp only [setAll] at h
    split at h
    · exact setAll_ne is ds _ x h
    · cases h
  | [], d :: ds, env, x, h => by simp [setAll] at h
  | j :: is, [], env, x, h => by simp [setAll] at h
theorem setTg_ne {t : Tg} {d : D} {x : Exc} : setTg t d env ≠ .ex x := by
  intro h
  unfold setTg at h
  split at h
  · split at h <;> cases h
  · split at h
    · exact setAll_ne _ _ _ _ h
    · cases h
end EV
namespace EV
open PySem L2
/-! ### the skeleton as readings -/
section
variable (K : PySem.W.Frag) (XR : Exc → Value → Option Addr → Hp → Prop) (Φ : Nat → FD)
/-- a def that does what sem says -/
def spF (n : Nat) (sem : List D → R D) : Sp := fun vs H Q E => vs.length = n ∧ ∃ S ds, Same S H ∧ Owns K S H ds vs [] ∧ isZs ds = true ∧ Kont XR E H (sem ds) fun d => KE K S H d Q
def iSeq (tl : TE) : TI := fun σ H R => tl σ H fun x H1 => ∃ a, x = .ref a ∧ ((∃ xs, SqL K H1 a xs ∧ R (Itl K a) H1) ∨ (∃ xs, SqT K H1 a xs ∧ R (Itt K a) H1))
def E0' : XK := fun _ _ _ => False
mutual
def tE (E : XK) : C → TE
  | .slot i => tVar i
  | .non => tC .non | .bl b => tC (.bl b) | .int i => tC (.int i) | .str s => tC (.str s)
  | .bin op a b => tOp (rBin K op) (tE E a) (tE E b)
  | .neg a => tUn (rU fun i => .int (-i)) (tE E a)
  | .cmp op a b => tOp (rCmp K op) (tE E a) (tE E b)
  | .chain op op' a b c => tChain (rCmp K op) (rCmp K op') (tE E a) (tE E b) (tE E c)
  | .isN n a => if n then tNotN (tE E a) else tIsN (tE E a)
  | .and es => tAnds E es
  | .or es => tOrs E es
  | .not a => tNotV (tE E a)
  | .ite c a b => tIf (tT E c) (tE E a) (tE E b)
  | .tup es => tTup (tA E es)
  | .lst es => tLst (tA E es)
  | .dic => tDNewK
  | .dit => tDNewT
  | .dic1 k v => tDisp [(tE E k, tE E v)]
  | .ix a b => tOp (rIxA K) (tE E a) (tE E b)
  | .cut a lo hi => tSl (rSlA K) (tE E a) (tO E lo) (tO E hi)
  | .blt b a => tCB (rB K b) (tCons (tE E a) tNil)
  | .isi ty a => tCB (rIsi K) (tCons (tE E a) (tCons (tC (.ty ty)) tNil))
  | .call f es => tCall (spF K XR (Φ f).n (Φ f).sem) [] E (tA E es)
  | .comp it tg own c e => tLc (tI E it) (gT K tg) (tTo E0' c) (tE E0' e) own
  | .dcomp it tg own k e => tDc (tI E it) (gT K tg) tYes (tE E0' k) (tE E0' e) own
  | .mn a b => tCB (fun xs H Q => ∃ i j, xs = [.int i, .int j] ∧ Q (.int (if j < i then j else i)) H) (tCons (tE E a) (tCons (tE E b) tNil))
  | .flt c i t => tLc (iSeq K (tE E c)) (gName i) (tT E0' t) (tVar i) [i]
def tA (E : XK) : Cs → TA
  | .nil => tNil
  | .cons c cs => tCons (tE E c) (tA E cs)
def tO (E : XK) : Co → TO
  | .none => tNoPart
  | .some c => tPart (tE E c)
def tTo (E : XK) : To → TT
  | .none => tYes
  | .some t => tT E t
def tT (E : XK) : T → TT
  | .v c => fun σ H Q => tE E c σ H fun x H' => ∃ k, TruV K x H' k ∧ Q k H'
  | .b c => tTest (tE E c)
  | .not t => tNot (tT E t)
  | .and ts => tTA E ts
  | .or ts => tTO E ts
def tTA (E : XK) : Ts → TT
  | .nil => tYes
  | .cons t ts => tAnd (tT E t) (tTA E ts)
def tTO (E : XK) : Ts → TT
  | .nil => fun _ H Q => Q false H
  | .cons t ts => tOr (tT E t) (tTO E ts)
def tAnds (E : XK) : Cs → TE
  | .nil => tC (.bl true)
  | .cons c cs => tAndV (tE E c) (tAnds E cs)
def tOrs (E : XK) : Cs → TE
  | .nil => tC (.bl false)
  | .cons c cs => tOrV (tE E c) (tOrs E cs)
def tI (E : XK) : It → TI
  | .r1 a => iRng1 (tCons (tE E a) tNil)
  | .r2 a b => iRng2 (tCons (tE E a) (tCons (tE E b) tNil))
  | .seq c => iSeq K (tE E c)
end
end
variable {K : PySem.W.Frag} {S S' H H' S0 H0 S1 H1 : Hp} {σ : St} {env env' : Env} {As : Nat → List Addr} {E : XK} {XR : Exc → Value → Option Addr → Hp → Prop} {Φ : Nat → FD}
/-- what a loop's iterator is, over the items ds -/
structure ItOk (K : PySem.W.Frag) (J : L2.It) (P : Hp → Prop) (S : Hp) (ds : List D) : Prop where
  go : ∀ i H, P H → i < ds.length → J.go i H
  stop : ∀ i H, P H → ds.length ≤ i → J.stop i H
  yld : ∀ i H x H' d, P H → J.yld i H x H' → ds[i]? = some d → H' = H ∧ Own K S H d x []
def stays (lv : Bool) (S H : Hp) : Hp → Prop := fun H2 => Same S H2 ∧ (lv = true → Same H H2)
def KI (K : PySem.W.Frag) (lv : Bool) (S H : Hp) (ds : List D) (R : L2.It → Hp → Prop) : Prop := ∀ J S' H', Fut S H S' H' → ItOk K J (stays lv S' H') S' ds → (lv = true ∨ isZs ds = true) → R J H'
/-- a call of a def -/
theorem callC {f : Nat} {ds : List D} {vs : List V} {B : List Addr} {Q : VK} (f1 : Fut S0 H0 S H) (o : Owns K S H ds vs B) (k : Kont XR E H0 (callD (Φ f) ds) fun d => KE K S0 H0 d Q) : spF K XR (Φ f).n (Φ f).sem vs H Q E := by
  unfold callD at k
  split at k
  rotate_left
  · exact k.elim
  rename_i l
  rw [Owns.length ds vs B o] at l
  split at k
  · rename_i z
    refine ⟨l, S, ds, f1.sub, (Owns.ofZ ds vs B z o).2, z, k.imp f1.hp fun d _ k => k.fut f1⟩
  · refine ⟨l, H, zzs ds, Same.refl _, Owns.view f1.sub ds vs B o, isZs_zzs ds, ?_⟩
    refine k.bind f1.hp fun d _ k => ?_
    intro v S' H' B' g od fr
    let S2 : Hp := fun a => match S' a with
      | some (.tup xs) => some (.tup xs)
      | some (.ins c dx fs) => some (.ins c dx fs)
      | some (.frz o (.tup xs)) => some (.frz o (.tup xs))
      | some (.frz o (.lst xs)) => some (.frz o (.lst xs))
      | _ => S a
    have hs : ∀ a o, S2 a = some o → S' a = some o ∨ S a = some o := fun a o e => by
      simp only [S2] at e
      split at e <;> first | (rename_i h; left; rw [h]; exact e) | exact .inr e
    have hI : ∀ a o, S' a = some o → Imm o → S2 a = some o := fun a o e i => by
      simp only [S2]
      split
      · rename_i h; rw [h] at e; exact e
      · rename_i h; rw [h] at e; exact e
      · rename_i h; rw [h] at e; exact e
      · rename_i h; rw [h] at e; exact e
      · rename_i h1 h2 h3 h4
        exfalso
        cases o <;> try exact i
        · exact h1 _ e
        · exact h2 _ _ _ e
        · rename_i ob u
          cases u <;> try exact i
          · exact h4 _ _ e
          · exact h3 _ _ e
    have hS' : Same S S' := fun a o e => g.st a o (f1.sub a o e)
    have hSS : Same S S2 := fun a o e => by
      simp only [S2]
      split
      · rename_i h; rw [hS' a o e] at h; exact h.symm
      · rename_i h; rw [hS' a o e] at h; exact h.symm
      · rename_i h; rw [hS' a o e] at h; exact h.symm
      · rename_i h; rw [hS' a o e] at h; exact h.symm
      · exact e
    have f2 : Fut S H S2 H' := by
      refine ⟨g.hp, hSS, fun a o e => ?_, fun a o e => ?_⟩
      · rcases hs a o e with h | h
        · exact g.sub a o h
        · exact g.hp a o (f1.sub a o h)
      · simp only [S2] at e
        have key : ∀ o', S' a = some o' → Imm o' → S a = some o' ∨ H a = none ∨ (H a = some o' ∧ Imm o') := fun o' h i => by
          rcases g.new a o' h with z | z | z
          · exact .inr (.inr ⟨z, i⟩)
          · exact .inr (.inl z)
          · exact .inr (.inr z)
        split at e
        · rename_i h; cases e; exact key _ h trivial
        · rename_i h; cases e; exact key _ h trivial
        · rename_i h; cases e; exact key _ h trivial
        · rename_i h; cases e; exact key _ h trivial
        · exact .inl e
    refine k v S2 H' B' (f1.trans f2) (Own.taint hI g.sub d v B' od) ⟨fr.nd, fun p hp => ⟨Same.none f1.hp (fr.new p hp).1, ?_⟩⟩
    cases e : S2 p with
    | none => rfl
    | some u =>
      exfalso
      rcases hs p u e with h | h
      · rw [(fr.new p hp).2] at h; cases h
      · have := f1.sub p u h
        rw [(fr.new p hp).1] at this; cases this
theorem stays_now {lv : Bool} {S H : Hp} (s : Same S H) : stays lv S H H := ⟨s, fun _ => Same.refl _⟩
theorem itList {lv : Bool} {a : Addr} {vs : List V} {ds : List D} (h : ∀ H2, stays lv S H H2 → SqL K H2 a vs) (o : Owns K S H ds vs []) (z : lv = true ∨ isZs ds = true) : ItOk K (Itl K a) (stays lv S H) S ds := by
  have l := Owns.length _ _ _ o
  refine ⟨fun i H2 p hi => ?_, fun i H2 p hi => ⟨vs, h H2 p, by omega⟩, fun i H2 x H' d p y e => ?_⟩
  · exact ⟨vs, vs[i]'(by omega), h H2 p, by simp [show i < vs.length by omega]⟩
  · obtain ⟨rfl, y⟩ := y
    obtain ⟨v, B1, B2, B3, q1, q2, q3⟩ := Owns.get ds vs [] i d o e
    have := y vs (h H' p)
    rw [q1] at this
    cases this
    have : B2 = [] := by
      have := q2.symm
      simp at this
      exact this.2.1
    subst this
    refine ⟨rfl, ?_⟩
    rcases z with z | z
    · exact Own.keep (Same.refl _) _ _ _ (.inr (p.2 z)) (fun _ z => nomatch z) q3
    · have zd : isZ d = true := by
        have zz : ∀ (ds : List D) (i : Nat) (d : D), isZs ds = true → ds[i]? = some d → isZ d = true := fun ds => by
          induction ds with
          | nil => intro i d _ e; simp at e
          | cons x xs ih =>
            intro i d z e
            simp only [isZs, Bool.and_eq_true] at z
            cases i with
            | zero => simp at e; subst e; exact z.1
            | succ i => exact ih i d z.2 (by simpa using e)
        exact zz ds i d z e
      exact (Own.ofZ d _ [] zd q3).2
theorem itTup {lv : Bool} {a : Addr} {vs : List V} {ds : List D} (h : ∀ H2, stays lv S H H2 → SqT K H2 a vs) (o : Owns K S H ds vs []) (z : lv = true ∨ isZs ds = true) : ItOk K (Itt K a) (stays lv S H) S ds := by
  have l := Owns.length _ _ _ o
  refine ⟨fun i H2 p hi => ?_, fun i H2 p hi => ⟨vs, h H2 p, by omega⟩, fun i H2 x H' d p y e => ?_⟩
  · exact ⟨vs, vs[i]'(by omega), h H2 p, by simp [show i < vs.length by omega]⟩
  · obtain ⟨rfl, y⟩ := y
    obtain ⟨v, B1, B2, B3, q1, q2, q3⟩ := Owns.get ds vs [] i d o e
    have := y vs (h H' p)
    rw [q1] at this
    cases this
    have : B2 = [] := by
      have := q2.symm
      simp at this
      exact this.2.1
    subst this
    refine ⟨rfl, ?_⟩
    rcases z with z | z
    · exact Own.keep (Same.refl _) _ _ _ (.inr (p.2 z)) (fun _ z => nomatch z) q3
    · have zd : isZ d = true := by
        have zz : ∀ (ds : List D) (i : Nat) (d : D), isZs ds = true → ds[i]? = some d → isZ d = true := fun ds => by
          induction ds with
          | nil => intro i d _ e; simp at e
          | cons x xs ih =>
            intro i d z e
            simp only [isZs, Bool.and_eq_true] at z
            cases i with
            | zero => simp at e; subst e; exact z.1
            | succ i => exact ih i d z.2 (by simpa using e)
        exact zz ds i d z e
      exact (Own.ofZ d _ [] zd q3).2
theorem isZs_ints : ∀ (l : List Nat) (lo : Int), isZs (l.map fun (k : Nat) => D.int (lo + k)) = true
  | [], _ => rfl
  | k :: l, lo => by simp [isZs, isZ, isZs_ints l lo]
theorem itRng {lv : Bool} {lo : Int} {n : Nat} : ItOk K (Itr lo n) (stays lv S H) S (rangeD lo n) := by
  refine ⟨fun i H2 p hi => (show i < n by simpa [rangeD] using hi), fun i H2 p hi => (show n ≤ i by simpa [rangeD] using hi), fun i H2 x H' d p y e => ?_⟩
  obtain ⟨rfl, rfl⟩ := y
  refine ⟨rfl, ?_⟩
  simp only [rangeD, List.getElem?_map] at e
  cases h : (List.range n)[i]? with
  | none => rw [h] at e; cases e
  | some k =>
    rw [h] at e
    cases e
    obtain ⟨hk, rfl⟩ := List.getElem?_eq_some_iff.mp h
    simp [Own]
/-- a sequence that a loop takes -/
theorem seqC {lv : Bool} {d : D} {ds : List D} {v : V} {B : List Addr} {R : L2.It → Hp → Prop} (e : seqOf lv d = some ds) (f : Fut S0 H0 S H) (o : Own K S H d v B) (r : Fresh H0 S B) (k : KI K lv S0 H0 ds R) :
    ∃ a, v = .ref a ∧ ((∃ xs, SqL K H a xs ∧ R (Itl K a) H) ∨ (∃ xs, SqT K H a xs ∧ R (Itt K a) H)) := by
  unfold seqOf at e
  split at e
  · split at e <;> cases e
    rename_i z
    rw [Bool.or_eq_true] at z
    obtain ⟨_, a, vs, e1, q1, o1⟩ := o
    exact ⟨a, e1, .inr ⟨vs, .inl (.inl (f.sub _ _ q1)), k _ S H f (itTup (fun H2 p => .inl (.inl (p.1 _ _ q1))) o1 z) z⟩⟩
  · split at e <;> cases e
    rename_i z
    obtain ⟨_, a, vs, e1, q1, o1⟩ := o
    exact ⟨a, e1, .inl ⟨vs, .inl (.inl q1), k _ S H f (itList (fun H2 p => .inl (.inl (p.2 z _ _ q1))) o1 (.inl z)) (.inl z)⟩⟩
  · split at e <;> cases e
    rename_i fl ds nb c
    obtain ⟨g, s⟩ := f.more r
    cases fl with
    | b => exact absurd rfl nb
    | z =>
      obtain ⟨eB, a, vs, e1, q1, o1⟩ := o
      have o2 : Owns K S H (zzs ds) vs [] := Owns.freeze (Same.refl _) ds vs [] c (fun _ z => nomatch z) o1
      exact ⟨a, e1, .inl ⟨vs, .inl (.inl (f.sub _ _ q1)), k _ S H f (itList (fun H2 p => .inl (.inl (p.1 _ _ q1))) o2 (.inr (isZs_zzs ds))) (.inr (isZs_zzs ds))⟩⟩
    | o =>
      obtain ⟨a, vs, B', e1, eB, q1, o1⟩ := o
      subst eB
      have o2 : Owns K (more S H (a :: B')) H (zzs ds) vs [] := Owns.freeze s ds vs B' c (fun p hp => more_in (by simp [hp])) o1
      have q2 : more S H (a :: B') a = some (.lst vs) := (more_in (by simp)).trans q1
      exact ⟨a, e1, .inl ⟨vs, .inl (.inl q1), k _ _ H g (itList (fun H2 p => .inl (.inl (p.1 _ _ q2))) o2 (.inr (isZs_zzs ds))) (.inr (isZs_zzs ds))⟩⟩
  · cases e
end EV
namespace EV
open PySem L2
variable {K : PySem.W.Frag} {XR : Exc → Value → Option Addr → Hp → Prop} {Φ : Nat → FD}
theorem get_some {env : Env} {i : Nat} {d : D} (e : get env i = .ok d) : env[i]? = some (some d) := by
  unfold get at e
  split at e
  · rename_i h; cases e; exact h
  · cases e
theorem noEx_ne {α : Type} {r : R α} {x : Exc} : noEx r ≠ .ex x := by
  cases r <;> intro h <;> cases h
theorem noEx_ok {α : Type} {r : R α} {a : α} (h : noEx r = .ok a) : r = .ok a := by
  cases r <;> cases h <;> rfl
theorem same_updS {S H : Hp} {p : Addr} {o : HO} (s : Same S H) (n : S p = none) : Same S (upd H p o) := fun a u e => by
  rw [upd_ne (ne_of_none e n)]; exact s a u e
/-- the cell of a list under way is written -/
theorem Fut.write {S1 H1 S2 H2 : Hp} {p : Addr} {o : HO} (f : Fut S1 H1 S2 H2) (n1 : H1 p = none) (n2 : S2 p = none) : Fut S1 H1 S2 (L2.upd H2 p o) :=
  ⟨same_updS f.hp n1, f.st, same_updS f.sub n2, f.new⟩
/-- a comprehension's list: the loop -/
theorem compC {g : TG} {tt : TT} {te : TE} {own : List Nat} {turn : D → R (Option D)} {S H : Hp} {σ : St} {Q : VK} {ds : List D} {J : L2.It} {S1 H1 : Hp} {P : Hp → Prop} {XR : Exc → Value → Option Addr → Hp → Prop} {E : XK}
    (f1 : Fut S H S1 H1) (J1 : ItOk K J P S1 ds) (hP : ∀ H2, Same S1 H2 → Same H1 H2 → P H2) (hx : ∀ d x, turn d ≠ .ex x)
    (step : ∀ (d : D) (x : V) (S2 H2 : Hp) (Pn : Hp → Prop) (Ps : VK), Fut S1 H1 S2 H2 → Own K S2 H2 d x [] → 
      ∀ r, turn d = .ok r → (∀ S3 H3, Fut S2 H2 S3 H3 → r = none → Pn H3) → (∀ z, r = some z → KE K S2 H2 z Ps) →
      g x (wipe σ own) H2 fun σ2 H3 => wipe σ2 own = wipe σ own ∧ tt σ2 H3 fun b H4 => if b = true then te σ2 H4 Ps else Pn H4)
    {D0 : Addr} (nD : H1 D0 = none) (k : Kont XR E H ((compL turn ds []).bind fun xs => .ok (.lst .o xs)) fun d => KE K S H d Q) :
    ∃ W : Nat → Nat → Hp → Prop, (∃ m, W 0 m (upd H1 D0 (.lst []))) ∧ ∀ i m H, W i m H →
      (J.stop i H ∧ Q (.ref D0) H) ∨ (J.go i H ∧ ∃ Nx : Hp → Prop, (∀ H', Nx H' → ∃ m', m' < m ∧ W (i + 1) m' H') ∧ ∀ x H', J.yld i H x H' → g x (wipe σ own) H' fun σ2 H2 => wipe σ2 own = wipe σ own ∧ tt σ2 H2 fun b H3 =>
        if b = true then te σ2 H3 fun y H4 => ∃ acc, H4 D0 = some (.lst acc) ∧ acc.length < sizeLine ∧ Nx (upd H4 D0 (.lst (acc ++ [y]))) else Nx H3) := by
  have nS1 : S1 D0 = none := Same.none f1.sub nD
  refine ⟨fun i m H2 => m = ds.length - i ∧ i ≤ ds.length ∧ ∃ S2 acc vs B, Fut S1 H1 S2 H2 ∧ H2 D0 = some (.lst vs) ∧ Owns K S2 H2 acc vs B ∧ cleans acc = true ∧ Fresh H1 S2 (D0 :: B) ∧
    Kont XR E H ((compL turn (ds.drop i) acc).bind fun xs => .ok (.lst .o xs)) (fun d => KE K S H d Q), ⟨ds.length, by simp, Nat.zero_le _, S1, [], [], [], (Fut.refl f1.sub).upd nD, upd_same, ⟨rfl, rfl⟩, rfl, ⟨by simp, fun p hp => by
      have : p = D0 := by simpa using hp
      subst this
      exact ⟨nD, nS1⟩⟩, by simpa using k⟩, ?_⟩
  rintro i m H2 ⟨rfl, hi, S2, acc, vs, B, f2, hD, ow, cl, fr, kk⟩
  have pH : P H2 := hP H2 (fun a o e => f2.hp a o (f1.sub a o e)) f2.hp
  have lacc := Owns.length _ _ _ ow
  by_cases hlt : i < ds.length
  · refine .inr ⟨J1.go i H2 pH hlt, fun H' => i + 1 ≤ ds.length ∧ ∃ S2 acc vs B, Fut S1 H1 S2 H' ∧ H' D0 = some (.lst vs) ∧ Owns K S2 H' acc vs B ∧ cleans acc = true ∧ Fresh H1 S2 (D0 :: B) ∧
      Kont XR E H ((compL turn (ds.drop (i + 1)) acc).bind fun xs => .ok (.lst .o xs)) (fun d => KE K S H d Q), fun H' h => ⟨ds.length - (i + 1), by omega, rfl, h⟩, fun x H' y => ?_⟩
    have ei : ds[i]? = some ds[i] := List.getElem?_eq_getElem hlt
    obtain ⟨rfl, ox⟩ := J1.yld i H2 x H' _ pH y ei
    rw [List.drop_eq_getElem_cons hlt] at kk
    simp only [compL] at kk
    have ox2 : Own K S2 H' ds[i] x [] := Own.keep f2.st _ _ _ (.inr (Same.refl _)) (fun _ z => nomatch z) ox
    have t0 : ∀ p ∈ D0 :: B, (∃ xs, H' p = some (.lst xs)) ∨ (∃ kvs, H' p = some (.dK kvs)) ∨ ∃ kvs, H' p = some (.dT kvs) := fun p hp => by
      rcases List.mem_cons.mp hp with rfl | hp
      · exact .inl ⟨_, hD⟩
      · exact Owns.there _ _ _ ow p hp
    cases hr : turn ds[i] with
    | st => rw [hr] at kk; exact kk.elim
    | ex x => exact absurd hr (hx _ _)
    | ok r =>
      rw [hr] at kk
      refine step ds[i] x S2 H' _ _ f2 ox2 r hr (fun S3 H3 f3 e => ?_) (fun z e => ?_)
      · subst e
        exact ⟨hlt, S3, acc, vs, B, f2.trans f3, f3.hp _ _ hD, ow.fut f3, cl, fr.fut f3 t0, kk⟩
      · subst e
        intro y S4 H4 By f4 oy ry
        change Kont XR E H ((if (clean z && decide (acc.length < sizeLine)) = true then compL turn (ds.drop (i + 1)) (acc ++ [z]) else R.st).bind _) _ at kk
        by_cases hc : (clean z && decide (acc.length < sizeLine)) = true
        · rw [if_pos hc] at kk
          rw [Bool.and_eq_true, decide_eq_true_eq] at hc
          have fr4 := fr.fut f4 t0
          have ow4 := ow.fut f4
          have nS4 : S4 D0 = none := (fr4.new D0 (by simp)).2
          have all := Fresh.app f4 f2.hp fr t0 ry
          have nd := all.nd
          have hD4 := f4.hp _ _ hD
          refine ⟨vs, hD4, by rw [← lacc]; exact hc.2, hlt, S4, acc ++ [z], vs ++ [y], B ++ By, (f2.trans f4).write nD nS4, upd_same, Owns.append _ _ _ _ _ _ ?_ (Owns.one ?_), ?_, by simpa using all, kk⟩
          · refine Owns.keep (Same.refl _) _ _ _ (.inl cl) (fun p hp => upd_ne ?_) ow4
            rintro rfl
            simp at nd
            exact nd.1.1 hp
          · refine Own.keep (Same.refl _) _ _ _ (.inl hc.1) (fun p hp => upd_ne ?_) oy
            rintro rfl
            simp at nd
            exact nd.1.2 hp
          · have : ∀ (a : List D), cleans a = true → cleans (a ++ [z]) = true := fun a => by
              induction a with
              | nil => intro _; simp [cleans, hc.1]
              | cons x xs ih => intro h; simp only [cleans, Bool.and_eq_true] at h; simp [cleans, h.1, ih h.2]
            exact this acc cl
        · rw [if_neg hc] at kk
          exact kk.elim
  · have e : i = ds.length := by omega
    subst e
    refine .inl ⟨J1.stop _ H2 pH (Nat.le_refl _), ?_⟩
    rw [List.drop_length] at kk
    exact kk (.ref D0) S2 H2 (D0 :: B) (f1.trans f2) ⟨D0, vs, B, rfl, rfl, hD, ow⟩ (fr.back f1.hp)
theorem cleans_snoc : ∀ (a : List D) (z : D), cleans a = true → clean z = true → cleans (a ++ [z]) = true
  | [], z, _, h => by simp [cleans, h]
  | x :: xs, z, c, h => by
    simp only [cleans, Bool.and_eq_true] at c
    simp [cleans, c.1, cleans_snoc xs z c.2 h]
/-- the items of a fresh list that pass a test: the loop -/
theorem fltC {i : Nat} {tt : TT} {test : D → R Bool} {S H : Hp} {σ : St} {Q : VK} {ds : List D} {a : Addr} {vs : List V} {B : List Addr} {S1 H1 : Hp} {XR : Exc → Value → Option Addr → Hp → Prop} {E : XK}
    (f1 : Fut S H S1 H1) (hq : H1 a = some (.lst vs)) (ow : Owns K S1 H1 ds vs B) (cl : cleans ds = true) (fr : Fresh H S1 B) (hl : ds.length ≤ sizeLine) (hi : i < σ.length) (hx : ∀ d x, test d ≠ .ex x)
    (step : ∀ (d : D) (x : V) (S2 H2 : Hp) (Pn : Bool → Hp → Prop), Fut S1 H1 S2 H2 → Own K S2 H2 (bb d) x [] → ∀ b, test d = .ok b → (∀ S3 H3, Fut S2 H2 S3 H3 → Pn b H3) → tt ((wipe σ [i]).set i (some x)) H2 Pn)
    {D0 : Addr} (nD : H1 D0 = none) (k : Kont XR E H ((fltL test ds []).bind fun xs => .ok (.lst .o xs)) fun d => KE K S H d Q) :
    ∃ W : Nat → Nat → Hp → Prop, (∃ m, W 0 m (upd H1 D0 (.lst []))) ∧ ∀ n m H, W n m H →
      ((Itl K a).stop n H ∧ Q (.ref D0) H) ∨ ((Itl K a).go n H ∧ ∃ Nx : Hp → Prop, (∀ H', Nx H' → ∃ m', m' < m ∧ W (n + 1) m' H') ∧ ∀ x H', (Itl K a).yld n H x H' → gName i x (wipe σ [i]) H' fun σ2 H2 => wipe σ2 [i] = wipe σ [i] ∧ tt σ2 H2 fun b H3 =>
        if b = true then tVar i σ2 H3 fun y H4 => ∃ acc, H4 D0 = some (.lst acc) ∧ acc.length < sizeLine ∧ Nx (upd H4 D0 (.lst (acc ++ [y]))) else Nx H3) := by
  have nS1 : S1 D0 = none := Same.none f1.sub nD
  have tB := Owns.there ds vs B ow
  have nB : D0 ∉ B := fun z => by
    rcases tB D0 z with ⟨_, t⟩ | ⟨_, t⟩ | ⟨_, t⟩ <;> (rw [t] at nD; cases nD)
  have lvs := Owns.length _ _ _ ow
  refine ⟨fun n m H2 => m = ds.length - n ∧ n ≤ ds.length ∧ ∃ S2 acc us BA BR, Fut S1 H1 S2 H2 ∧ S2 D0 = none ∧ H2 D0 = some (.lst us) ∧ Owns K S2 H2 acc us BA ∧ Owns K S2 H2 (ds.drop n) (vs.drop n) BR ∧ cleans acc = true ∧ cleans (ds.drop n) = true ∧ (BA ++ BR).Sublist B ∧ acc.length ≤ n ∧
    Kont XR E H ((fltL test (ds.drop n) acc).bind fun xs => .ok (.lst .o xs)) (fun d => KE K S H d Q), ⟨ds.length, by simp, Nat.zero_le _, S1, [], [], [], B, (Fut.refl f1.sub).upd nD, nS1, upd_same, ⟨rfl, rfl⟩, ?_, rfl, by simpa using cl, by simp, by simp, by simpa using k⟩, ?_⟩
  · simpa using ow.fut ((Fut.refl f1.sub).upd nD)
  rintro n m H2 ⟨rfl, hn, S2, acc, us, BA, BR, f2, nD2, hD, oa, orr, ca, cr, sl, la, kk⟩
  have hq2 : SqL K H2 a vs := .inl (.inl (f2.hp _ _ hq))
  have lus := Owns.length _ _ _ oa
  by_cases hlt : n < ds.length
  · have hlv : n < vs.length := by omega
    refine .inr ⟨⟨vs, vs[n], hq2, List.getElem?_eq_getElem hlv⟩, fun H' => n + 1 ≤ ds.length ∧ ∃ S2 acc us BA BR, Fut S1 H1 S2 H' ∧ S2 D0 = none ∧ H' D0 = some (.lst us) ∧ Owns K S2 H' acc us BA ∧ Owns K S2 H' (ds.drop (n + 1)) (vs.drop (n + 1)) BR ∧ cleans acc = true ∧ cleans (ds.drop (n + 1)) = true ∧ (BA ++ BR).Sublist B ∧ acc.length ≤ n + 1 ∧
      Kont XR E H ((fltL test (ds.drop (n + 1)) acc).bind fun xs => .ok (.lst .o xs)) (fun d => KE K S H d Q), fun H' h => ⟨ds.length - (n + 1), by omega, rfl, h⟩, fun x H' y => ?_⟩
    obtain ⟨rfl, y⟩ := y
    have ex := y vs hq2
    rw [List.getElem?_eq_getElem hlv] at ex
    cases ex
    rw [List.drop_eq_getElem_cons hlt] at kk orr cr
    rw [List.drop_eq_getElem_cons hlv] at orr
    obtain ⟨v, vs', B1, B2, ev, rfl, o1, o2⟩ := orr
    injection ev with ev1 ev2
    rw [← ev1] at o1
    rw [← ev2] at o2
    simp only [cleans, Bool.and_eq_true] at cr
    have hw : i < (wipe σ [i]).length := by rw [wipe_length]; exact hi
    refine ⟨wipe_same (by simp [wipe_length]) fun j hj => ?_, ?_⟩
    · rw [List.getElem?_set_ne]
      simp at hj
      exact fun z => hj z.symm
    simp only [fltL] at kk
    cases hr : test ds[n] with
    | st => rw [hr] at kk; exact kk.elim
    | ex x => exact absurd hr (hx _ _)
    | ok b =>
      rw [hr] at kk
      refine step ds[n] _ S2 H' _ f2 (o1.borrow f2.sub) b hr fun S3 H3 f3 => ?_
      have nD3 : S3 D0 = none := out_keep f3 (.inl ⟨_, hD⟩) nD2
      have hD3 := f3.hp _ _ hD
      cases b with
      | false =>
        rw [if_neg Bool.false_ne_true]
        exact ⟨hlt, S3, acc, us, BA, B2, f2.trans f3, nD3, hD3, oa.fut f3, o2.fut f3, ca, cr.2, (List.Sublist.append_left (List.sublist_append_right B1 B2) BA).trans sl, by omega, kk⟩
      | true =>
        rw [if_pos rfl]
        have ll : us.length < sizeLine := by omega
        have inB : ∀ p, p ∈ BA ∨ p ∈ B1 ∨ p ∈ B2 → p ≠ D0 := fun p hp e => nB (by rw [← e]; exact sl.subset (by simpa using hp))
        refine ⟨_, List.getElem?_set_self hw, us, hD3, ll, hlt, S3, acc ++ [ds[n]], us ++ [vs[n]], BA ++ B1, B2, (f2.trans f3).write nD nD3, nD3, upd_same, Owns.append _ _ _ _ _ _ ?_ (Owns.one ?_), ?_, cleans_snoc _ _ ca cr.1, cr.2, by simpa using sl, by simp; omega, kk⟩
        · exact Owns.keep (Same.refl _) _ _ _ (.inl ca) (fun p hp => upd_ne (inB p (.inl hp))) (oa.fut f3)
        · exact Own.keep (Same.refl _) _ _ _ (.inl cr.1) (fun p hp => upd_ne (inB p (.inr (.inl hp)))) (o1.fut f3)
        · exact Owns.keep (Same.refl _) _ _ _ (.inl cr.2) (fun p hp => upd_ne (inB p (.inr (.inr hp)))) (o2.fut f3)
  · have e : n = ds.length := by omega
    subst e
    refine .inl ⟨⟨vs, hq2, by omega⟩, ?_⟩
    rw [List.drop_length] at kk
    have fr2 := (fr.fut f2 tB).sub ((List.sublist_append_left BA BR).trans sl)
    refine kk (.ref D0) S2 H2 (D0 :: BA) (f1.trans f2) ⟨D0, us, BA, rfl, rfl, hD, oa⟩ ⟨List.nodup_cons.mpr ⟨fun z => nB (sl.subset (by simp [z])), fr2.nd⟩, fun p hp => ?_⟩
    rcases List.mem_cons.mp hp with rfl | hp
    · exact ⟨Same.none f1.hp nD, nD2⟩
    · exact fr2.new p hp
/-- a dict comprehension's dict: the loop -/
theorem dcompC {g : TG} {tk tv : TE} {own : List Nat} {turn : D → R (Key × D)} {S H : Hp} {σ : St} {Q : VK} {ds : List D} {J : L2.It} {S1 H1 : Hp} {P : Hp → Prop} {XR : Exc → Value → Option Addr → Hp → Prop} {E : XK}
    (f1 : Fut S H S1 H1) (J1 : ItOk K J P S1 ds) (hP : ∀ H2, Same S1 H2 → Same H1 H2 → P H2) (hx : ∀ d x, turn d ≠ .ex x)
    (step : ∀ (d : D) (x : V) (S2 H2 : Hp) (Ps : V → V → Hp → Prop), Fut S1 H1 S2 H2 → Own K S2 H2 d x [] → 
      ∀ r, turn d = .ok r → (∀ y S3 H3 B, Fut S2 H2 S3 H3 → Own K S3 H3 r.2 y B → Fresh H2 S3 B → Ps (kV r.1) y H3) →
      g x (wipe σ own) H2 fun σ2 H3 => wipe σ2 own = wipe σ own ∧ tk σ2 H3 fun y H4 => tv σ2 H4 fun z H5 => Ps y z H5)
    {D0 : Addr} (nD : H1 D0 = none) (k : Kont XR E H ((dcompL turn ds [] []).bind fun r => .ok (.dic .o r.1 r.2)) fun d => KE K S H d Q) :
    ∃ W : Nat → Nat → Hp → Prop, (∃ m, W 0 m (upd H1 D0 (.dK []))) ∧ ∀ i m H, W i m H →
      (J.stop i H ∧ Q (.ref D0) H) ∨ (J.go i H ∧ ∃ Nx : Hp → Prop, (∀ H', Nx H' → ∃ m', m' < m ∧ W (i + 1) m' H') ∧ ∀ x H', J.yld i H x H' → g x (wipe σ own) H' fun σ2 H2 => wipe σ2 own = wipe σ own ∧ tYes σ2 H2 fun b H3 =>
        if b = true then tk σ2 H3 fun y H4 => tv σ2 H4 fun z H5 => ∃ kvs k, y = kV k ∧ H5 D0 = some (.dK kvs) ∧ kvs.length < sizeLine ∧ Nx (upd H5 D0 (.dK (putK kvs k z))) else Nx H3) := by
  have nS1 : S1 D0 = none := Same.none f1.sub nD
  refine ⟨fun i m H2 => m = ds.length - i ∧ i ≤ ds.length ∧ ∃ S2 ks acc vs B, Fut S1 H1 S2 H2 ∧ H2 D0 = some (.dK (ks.zip vs)) ∧ KL ks vs ∧ Owns K S2 H2 acc vs B ∧ cleans acc = true ∧ Fresh H1 S2 (D0 :: B) ∧
    Kont XR E H ((dcompL turn (ds.drop i) ks acc).bind fun r => .ok (.dic .o r.1 r.2)) (fun d => KE K S H d Q), ⟨ds.length, by simp, Nat.zero_le _, S1, [], [], [], [], (Fut.refl f1.sub).upd nD, upd_same, ⟨rfl, List.nodup_nil⟩, ⟨rfl, rfl⟩, rfl, ⟨by simp, fun p hp => by
      have : p = D0 := by simpa using hp
      subst this
      exact ⟨nD, nS1⟩⟩, by simpa using k⟩, ?_⟩
  rintro i m H2 ⟨rfl, hi, S2, ks, acc, vs, B, f2, hD, lk, ow, cl, fr, kk⟩
  have pH : P H2 := hP H2 (fun a o e => f2.hp a o (f1.sub a o e)) f2.hp
  have lacc := Owns.length _ _ _ ow
  by_cases hlt : i < ds.length
  · refine .inr ⟨J1.go i H2 pH hlt, fun H' => i + 1 ≤ ds.length ∧ ∃ S2 ks acc vs B, Fut S1 H1 S2 H' ∧ H' D0 = some (.dK (ks.zip vs)) ∧ KL ks vs ∧ Owns K S2 H' acc vs B ∧ cleans acc = true ∧ Fresh H1 S2 (D0 :: B) ∧
      Kont XR E H ((dcompL turn (ds.drop (i + 1)) ks acc).bind fun r => .ok (.dic .o r.1 r.2)) (fun d => KE K S H d Q), fun H' h => ⟨ds.length - (i + 1), by omega, rfl, h⟩, fun x H' y => ?_⟩
    have ei : ds[i]? = some ds[i] := List.getElem?_eq_getElem hlt
    obtain ⟨rfl, ox⟩ := J1.yld i H2 x H' _ pH y ei
    rw [List.drop_eq_getElem_cons hlt] at kk
    simp only [dcompL] at kk
    have ox2 : Own K S2 H' ds[i] x [] := Own.keep f2.st _ _ _ (.inr (Same.refl _)) (fun _ z => nomatch z) ox
    have t0 : ∀ p ∈ D0 :: B, (∃ xs, H' p = some (.lst xs)) ∨ (∃ kvs, H' p = some (.dK kvs)) ∨ ∃ kvs, H' p = some (.dT kvs) := fun p hp => by
      rcases List.mem_cons.mp hp with rfl | hp
      · exact .inr (.inl ⟨_, hD⟩)
      · exact Owns.there _ _ _ ow p hp
    cases hr : turn ds[i] with
    | st => rw [hr] at kk; exact kk.elim
    | ex x => exact absurd hr (hx _ _)
    | ok r =>
      rw [hr] at kk
      refine step ds[i] x S2 H' (fun y z H5 => ∃ kvs k, y = kV k ∧ H5 D0 = some (.dK kvs) ∧ kvs.length < sizeLine ∧ _) f2 ox2 r hr (fun y S4 H4 By f4 oy ry => ?_)
      obtain ⟨q, z⟩ := r
      change Kont XR E H ((if (clean z && decide (ks.length < sizeLine) && !memK q ks) = true then dcompL turn (ds.drop (i + 1)) (ks ++ [q]) (acc ++ [z]) else R.st).bind _) _ at kk
      by_cases hc : (clean z && decide (ks.length < sizeLine) && !memK q ks) = true
      · rw [if_pos hc] at kk
        simp only [Bool.and_eq_true, decide_eq_true_eq, Bool.not_eq_true', memK, decide_eq_false_iff_not] at hc
        obtain ⟨⟨hc1, hc2⟩, hc3⟩ := hc
        have fr4 := fr.fut f4 t0
        have ow4 := ow.fut f4
        have nS4 : S4 D0 = none := (fr4.new D0 (by simp)).2
        have all := Fresh.app f4 f2.hp fr t0 ry
        have nd := all.nd
        have hD4 := f4.hp _ _ hD
        have hz : (ks.zip vs).length = ks.length := by rw [List.length_zip, lk.1]; omega
        have hn : valV (ks.zip vs) q = none := by
          have e := lookK_val ks acc vs B q lk.1 ow
          have hl : ∀ (ks : List Key) (ds : List D), q ∉ ks → lookK ks ds q = none := fun ks => by
            induction ks with
            | nil => intro ds _; cases ds <;> rfl
            | cons k0 ks ih =>
              intro ds h
              cases ds with
              | nil => rfl
              | cons d ds =>
                simp only [List.mem_cons, not_or] at h
                simp [lookK, Ne.symm h.1, ih ds h.2]
          rw [hl ks acc hc3] at e
          exact e
        have hput : putK (ks.zip vs) q y = (ks ++ [q]).zip (vs ++ [y]) := by
          rw [putK_new _ hn, List.zip_append lk.1]; rfl
        refine ⟨ks.zip vs, q, rfl, hD4, by rw [hz]; exact hc2, hlt, S4, ks ++ [q], acc ++ [z], vs ++ [y], B ++ By, (f2.trans f4).write nD nS4, by rw [upd_same, hput], ⟨by simp [lk.1], List.nodup_append.mpr ⟨lk.2, by simp, fun a ha b hb e => by simp at hb; subst e; subst hb; exact hc3 ha⟩⟩, Owns.append _ _ _ _ _ _ ?_ (Owns.one ?_), ?_, by simpa using all, kk⟩
        · refine Owns.keep (Same.refl _) _ _ _ (.inl cl) (fun p hp => upd_ne ?_) ow4
          rintro rfl
          simp at nd
          exact nd.1.1 hp
        · refine Own.keep (Same.refl _) _ _ _ (.inl hc1) (fun p hp => upd_ne ?_) oy
          rintro rfl
          simp at nd
          exact nd.1.2 hp
        · have : ∀ (a : List D), cleans a = true → cleans (a ++ [z]) = true := fun a => by
            induction a with
            | nil => intro _; simp [cleans, hc1]
            | cons x xs ih => intro h; simp only [cleans, Bool.and_eq_true] at h; simp [cleans, h.1, ih h.2]
          exact this acc cl
      · rw [if_neg hc] at kk
        exact kk.elim
  · have e : i = ds.length := by omega
    subst e
    refine .inl ⟨J1.stop _ H2 pH (Nat.le_refl _), ?_⟩
    rw [List.drop_length] at kk
    exact kk (.ref D0) S2 H2 (D0 :: B) (f1.trans f2) ⟨D0, vs, B, rfl, rfl, hD, lk, ow⟩ (fr.back f1.hp)
end EV
namespace EV
open PySem L2
variable {K : PySem.W.Frag} {XR : Exc → Value → Option Addr → Hp → Prop} {Φ : Nat → FD}
theorem iff_tt {A B : Prop} (h : A) : if true = true then A else B := by rw [if_pos rfl]; exact h
theorem iff_ff {A B : Prop} (h : B) : if false = true then A else B := by rw [if_neg Bool.false_ne_true]; exact h
theorem iff_T {A B : Type} {P : Prop} (h : P) : P := h
theorem iff_F {A B : Type} {P : Prop} (h : P) : P := h
theorem noE {r : R D} {H : Hp} {P : D → Prop} (h : ∃ d, r = .ok d ∧ P d) : Kont XR E0' H r P := by
  obtain ⟨d, rfl, p⟩ := h; exact p
mutual
theorem corE (E : XK) : ∀ (c : C) {S H : Hp} {σ : St} {env : Env} {As : Nat → List Addr} {Q : VK}, Sta K S H σ env As → Kont XR E H (evE Φ c env) (fun d => KE K S H d Q) → tE K XR Φ E c σ H Q
  | .slot i, S, H, σ, env, As, Q, s, k => by
    simp only [evE] at k
    have k2 : Kont XR E H (get env i) (fun d => KE K S H (bb d) Q) := k.bind (Same.refl _) fun d _ k => k
    cases e : get env i with
    | st => rw [e] at k2; exact k2.elim
    | ex x => unfold get at e; split at e <;> cases e
    | ok d =>
      rw [e] at k2
      obtain ⟨v, h1, h2⟩ := s.val i d (get_some e)
      exact ⟨v, h1, k2 v S H [] (Fut.refl s.sub) (h2.borrow s.sub) .nil⟩
  | .non, S, H, σ, env, As, Q, s, k => KE.non k (Fut.refl s.sub)
  | .bl b, S, H, σ, env, As, Q, s, k => KE.bl k (Fut.refl s.sub)
  | .int i, S, H, σ, env, As, Q, s, k => KE.int k (Fut.refl s.sub)
  | .str z, S, H, σ, env, As, Q, s, k => KE.str k (Fut.refl s.sub)
  | .bin op a b, S, H, σ, env, As, Q, s, k => by
    simp only [evE] at k
    refine corE E a s (k.bind (Same.refl _) fun x _ k => ?_)
    intro v S1 H1 B1 f1 o1 r1
    refine corE E b (s.fut f1) (k.bind f1.hp fun y _ k => ?_)
    intro u S2 H2 B2 f2 o2 r2
    obtain ⟨d, e, k⟩ := k.of
    exact binC e (f1.trans f2) (o1.fut f2) o2 (Fresh.app f2 f1.hp r1 (Own.there _ _ _ o1) r2) k
  | .neg a, S, H, σ, env, As, Q, s, k => by
    simp only [evE] at k
    refine corE E a s (k.bind (Same.refl _) fun x _ k => ?_)
    intro v S1 H1 B1 f1 o1 r1
    obtain ⟨i, e, k⟩ := k.ofBind
    cases x <;> cases e
    exact ⟨i, o1.1, KE.int k f1⟩
  | .cmp op a b, S, H, σ, env, As, Q, s, k => by
    simp only [evE] at k
    refine corE E a s (k.bind (Same.refl _) fun x _ k => ?_)
    intro v S1 H1 B1 f1 o1 r1
    refine corE E b (s.fut f1) (k.bind f1.hp fun y _ k => ?_)
    intro u S2 H2 B2 f2 o2 r2
    obtain ⟨d, e, k⟩ := k.of
    exact cmpC e f2.sub (o1.fut f2) o2 fun b e => by subst e; exact KE.bl k (f1.trans f2)
  | .chain op op' a b c, S, H, σ, env, As, Q, s, k => by
    simp only [evE] at k
    refine corE E a s (k.bind (Same.refl _) fun x _ k => ?_)
    intro v S1 H1 B1 f1 o1 r1
    refine corE E b (s.fut f1) (k.bind f1.hp fun y _ k => ?_)
    intro u S2 H2 B2 f2 o2 r2
    obtain ⟨d, e, k⟩ := k.ofBind
    refine cmpC e f2.sub (o1.fut f2) o2 fun t et => ?_
    subst et
    refine ⟨t, rfl, ?_⟩
    cases t with
    | true =>
      refine iff_tt ?_
      refine corE E c ((s.fut f1).fut f2) (Kont.bind k (f1.hp.trans f2.hp) fun z _ k => ?_)
      intro w S3 H3 B3 f3 o3 r3
      obtain ⟨d, e, k⟩ := k.of
      exact cmpC e f3.sub (o2.fut f3) o3 fun b e => by subst e; exact KE.bl k ((f1.trans f2).trans f3)
    | false => exact iff_ff (KE.bl k (f1.trans f2))
  | .isN n a, S, H, σ, env, As, Q, s, k => by
    simp only [evE] at k
    have hd : ∀ (x : D) (v : V) (S1 H1 : Hp) (B : List Addr), Own K S1 H1 x v B → (decide (v = .non) = match x with | .non => true | _ => false) := fun x v S1 H1 B o => by
      cases x with
      | non => rw [o.1]; rfl
      | bl _ => rw [o.1]; rfl
      | int _ => rw [o.1]; rfl
      | str _ => rw [o.1]; rfl
      | tup _ => obtain ⟨_, _, _, rfl, _⟩ := o; rfl
      | lst f _ => cases f <;> first | (obtain ⟨_, _, _, rfl, _⟩ := o; rfl) | (obtain ⟨_, _, _, rfl, _⟩ := o; rfl)
      | dic f _ _ => cases f <;> first | (obtain ⟨_, _, _, rfl, _⟩ := o; rfl) | (obtain ⟨_, _, _, rfl, _⟩ := o; rfl)
      | dit f _ _ => cases f <;> first | (obtain ⟨_, _, _, rfl, _⟩ := o; rfl) | (obtain ⟨_, _, _, rfl, _⟩ := o; rfl)
      | scr _ => obtain ⟨_, _, rfl, _⟩ := o; rfl
      | obj _ _ _ => obtain ⟨_, _, _, _, rfl, _⟩ := o; rfl
    have fin : ∀ (x : D) (v : V) (S1 H1 : Hp) (B : List Addr), Fut S H S1 H1 → Own K S1 H1 x v B → Kont XR E H (match x with | .non => .ok (.bl !n) | _ => .ok (.bl n)) (fun d => KE K S H d Q) → Q (.bl (if n then !decide (v = .non) else decide (v = .non))) H1 := fun x v S1 H1 B f o k => by
      have e := hd x v S1 H1 B o
      cases x with
      | non => rw [e]; cases n <;> exact KE.bl k f
      | bl _ => rw [e]; cases n <;> exact KE.bl k f
      | int _ => rw [e]; cases n <;> exact KE.bl k f
      | str _ => rw [e]; cases n <;> exact KE.bl k f
      | tup _ => rw [e]; cases n <;> exact KE.bl k f
      | lst _ _ => rw [e]; cases n <;> exact KE.bl k f
      | dic _ _ _ => rw [e]; cases n <;> exact KE.bl k f
      | dit _ _ _ => rw [e]; cases n <;> exact KE.bl k f
      | scr _ => rw [e]; cases n <;> exact KE.bl k f
      | obj _ _ _ => rw [e]; cases n <;> exact KE.bl k f
    have main : tE K XR Φ E a σ H (fun x H1 => Q (.bl (if n then !decide (x = .non) else decide (x = .non))) H1) :=
      corE E a s (k.bind (Same.refl _) fun x _ k => fun v S1 H1 B1 f1 o1 r1 => fin x v S1 H1 B1 f1 o1 k)
    cases n with
    | true => exact main
    | false => exact main
  | .and es, S, H, σ, env, As, Q, s, k => corAnds E es s (by simpa only [evE] using k)
  | .or es, S, H, σ, env, As, Q, s, k => corOrs E es s (by simpa only [evE] using k)
  | .not a, S, H, σ, env, As, Q, s, k => by
    simp only [evE] at k
    refine corE E a s (k.bind (Same.refl _) fun x _ k => ?_)
    intro v S1 H1 B1 f1 o1 r1
    cases x <;> first | exact k.elim | skip
    exact ⟨_, o1.1, KE.bl k f1⟩
  | .ite c a b, S, H, σ, env, As, Q, s, k => by
    simp only [evE] at k
    refine corT E c s (k.bind (Same.refl _) fun t _ k => ?_)
    intro S1 H1 f1
    cases t with
    | true => exact iff_tt (corE E a (s.fut f1) (Kont.imp k f1.hp fun d _ k => k.fut f1))
    | false => exact iff_ff (corE E b (s.fut f1) (Kont.imp k f1.hp fun d _ k => k.fut f1))
  | .tup es, S, H, σ, env, As, Q, s, k => by
    simp only [evE] at k
    refine corA E es s (k.bind (Same.refl _) fun ds _ k => ?_)
    intro vs S1 H1 B1 f1 o1 r1
    split at k
    · rename_i h
      rw [Bool.and_eq_true] at h
      exact ⟨by rw [← Owns.length _ _ _ o1]; exact of_decide_eq_true h.2, fun p n => KE.newT k f1 o1 h.1 r1 n⟩
    · exact k.elim
  | .lst es, S, H, σ, env, As, Q, s, k => by
    simp only [evE] at k
    refine corA E es s (k.bind (Same.refl _) fun ds _ k => ?_)
    intro vs S1 H1 B1 f1 o1 r1
    split at k
    · rename_i h
      exact ⟨by rw [← Owns.length _ _ _ o1]; exact of_decide_eq_true h, fun p n => KE.newL k f1 o1 r1 n⟩
    · exact k.elim
  | .dic, S, H, σ, env, As, Q, s, k => by
    intro p n
    exact k (.ref p) S _ [p] ((Fut.refl s.sub).upd n) ⟨p, [], [], rfl, rfl, upd_same, ⟨rfl, List.nodup_nil⟩, rfl, rfl⟩ ⟨by simp, fun q hq => by
      have : q = p := by simpa using hq
      subst this
      exact ⟨n, Same.none s.sub n⟩⟩
  | .dit, S, H, σ, env, As, Q, s, k => by
    intro p n
    exact k (.ref p) S _ [p] ((Fut.refl s.sub).upd n) ⟨p, [], [], rfl, rfl, upd_same, ⟨rfl, List.nodup_nil⟩, rfl, rfl⟩ ⟨by simp, fun q hq => by
      have : q = p := by simpa using hq
      subst this
      exact ⟨n, Same.none s.sub n⟩⟩
  | .dic1 a b, S, H, σ, env, As, Q, s, k => by
    simp only [evE] at k
    intro p n
    have f0 : Fut S H S (upd H p (.dK [])) := (Fut.refl s.sub).upd n
    refine corE E a (s.fut f0) (k.bind f0.hp fun x _ k => ?_)
    intro v S1 H1 B1 f1 o1 r1
    refine corE E b (s.fut (f0.trans f1)) (k.bind (f0.hp.trans f1.hp) fun y _ k => ?_)
    intro u S2 H2 B2 f2 o2 r2
    obtain ⟨q, eq, k⟩ := k.ofBind
    split at k
    · rename_i c
      have e2 : H2 p = some (.dK []) := f2.hp _ _ (f1.hp _ _ upd_same)
      have n2 : S2 p = none := out_keep (f1.trans f2) (.inr (.inl ⟨_, upd_same⟩)) (Same.none s.sub n)
      have nB : p ∉ B2 := fun z => by
        have := (r2.new p z).1
        rw [f1.hp _ _ upd_same] at this
        cases this
      have ev := Own.key eq o1
      subst ev
      refine ⟨e2, [(q, u)], rfl, by simp, ?_⟩
      have r3 : Fresh H S2 (p :: B2) := ⟨List.nodup_cons.mpr ⟨nB, r2.nd⟩, fun b hb => by
        rcases List.mem_cons.mp hb with rfl | hb
        · exact ⟨n, n2⟩
        · exact ⟨Same.none (f0.hp.trans f1.hp) (r2.new b hb).1, (r2.new b hb).2⟩⟩
      refine k (.ref p) S2 _ (p :: B2) (((f0.trans f1).trans f2).write n n2) ⟨p, [u], B2, rfl, rfl, upd_same, ⟨rfl, by simp⟩, Owns.one ?_⟩ r3
      exact Own.keep (Same.refl _) _ _ _ (.inl c) (fun b hb => upd_ne (by rintro rfl; exact nB hb)) o2
    · exact k.elim
  | .ix a b, S, H, σ, env, As, Q, s, k => by
    simp only [evE] at k
    refine corE E a s (k.bind (Same.refl _) fun x _ k => ?_)
    intro v S1 H1 B1 f1 o1 r1
    refine corE E b (s.fut f1) (k.bind f1.hp fun y _ k => ?_)
    intro u S2 H2 B2 f2 o2 r2
    obtain ⟨d, e, k⟩ := k.of
    exact ixC e (f1.trans f2) (o1.fut f2) o2 (Fresh.app f2 f1.hp r1 (Own.there _ _ _ o1) r2) k
  | .cut a lo hi, S, H, σ, env, As, Q, s, k => by
    simp only [evE] at k
    refine corE E a s (k.bind (Same.refl _) fun x _ k => ?_)
    intro v S1 H1 B1 f1 o1 r1
    refine corO E lo (s.fut f1) (k.bind f1.hp fun l _ k => ?_)
    intro S2 H2 f2
    refine corO E hi ((s.fut f1).fut f2) (k.bind (f1.hp.trans f2.hp) fun l _ k => ?_)
    intro S3 H3 f3
    obtain ⟨d, e, k⟩ := k.of
    exact cutC e ((f1.trans f2).trans f3) (o1.fut (f2.trans f3)) (r1.fut (f2.trans f3) (Own.there _ _ _ o1)) k
  | .blt b a, S, H, σ, env, As, Q, s, k => by
    simp only [evE] at k
    refine corE E a s (k.bind (Same.refl _) fun x _ k => ?_)
    intro v S1 H1 B1 f1 o1 r1
    obtain ⟨d, e, k⟩ := k.of
    exact bC e f1 o1 r1 k
  | .isi tn a, S, H, σ, env, As, Q, s, k => by
    simp only [evE] at k
    refine corE E a s (k.bind (Same.refl _) fun x _ k => ?_)
    intro v S1 H1 B1 f1 o1 r1
    obtain ⟨d, e, k⟩ := k.of
    have hn : (∀ c ks ds, x ≠ .obj c ks ds) ∧ (∀ f ks ds, x ≠ .dit f ks ds) ∧ (∀ ns, x ≠ .scr ns) := by
      refine ⟨?_, ?_, ?_⟩
      · rintro _ _ _ rfl; simp [dIsi] at e
      · rintro _ _ _ rfl; simp [dIsi] at e
      · rintro _ rfl; simp [dIsi] at e
    have tyx := tyC o1 f1.sub hn.1 hn.2.1 hn.2.2
    have e2 : ∃ b, kitB (tyName x) tn = some b ∧ d = .bl b := by
      cases x <;> first | (exact Option.map_eq_some_iff.mp e |>.imp fun b h => ⟨h.1, h.2.symm⟩) | cases e
    obtain ⟨b, e3, rfl⟩ := e2
    exact ⟨v, _, _, _, b, rfl, .ty _, tyx, kit_ty e3, KE.bl k f1⟩
  | .call f es, S, H, σ, env, As, Q, s, k => by
    simp only [evE] at k
    refine corA E es s (k.bind (Same.refl _) fun ds _ k => ?_)
    intro vs S1 H1 B1 f1 o1 r1
    show spF K XR _ _ (vs ++ []) H1 Q E
    rw [List.append_nil]
    exact callC f1 o1 k
  | .comp it tg own c e, S, H, σ, env, As, Q, s, k => by
    simp only [evE] at k
    refine corI E it true s (k.bind (Same.refl _) fun ds _ k => ?_)
    intro J S1 H1 f1 J1 z
    split at k
    · exact k.elim
    rename_i hw
    simp only [Bool.not_eq_true', Bool.not_eq_false] at hw
    intro D0 nD
    refine compC f1 J1 (fun H2 h1 h2 => ⟨h1, fun _ => h2⟩) (fun _ _ => noEx_ne) ?_ nD k
    intro d x S2 H2 Pn Ps f2 ox r hr hn hs
    have hr := noEx_ok hr
    have sw := ((s.fut f1).fut f2).wipe own
    cases h1 : setTg tg d (wipeE env own) with
    | st => rw [h1] at hr; cases hr
    | ex x => rw [h1] at hr; cases hr
    | ok env' =>
      rw [h1] at hr
      refine setTgC sw h1 ox fun σ' As' s' l hk _ => ⟨?_, ?_⟩
      · refine wipe_same (by rw [l, wipe_length]) fun j hj => hk j fun hm => hj ?_
        have := List.all_eq_true.mp hw j hm
        simpa using this
      · refine corTo E0' c s' ?_
        change ((evTo Φ c env').bind fun b => if b then (evE Φ e env').bind fun x => .ok (some x) else .ok none) = .ok r at hr
        cases hb : evTo Φ c env' with
        | st => rw [hb] at hr; cases hr
        | ex x => rw [hb] at hr; cases hr
        | ok b =>
          rw [hb] at hr
          intro S3 H3 f3
          cases b with
          | false => 
            refine iff_ff ?_
            cases hr
            exact hn S3 H3 f3 rfl
          | true =>
            refine iff_tt ?_
            change ((evE Φ e env').bind fun x => .ok (some x)) = .ok r at hr
            refine corE E0' e (s'.fut f3) ?_
            cases he : evE Φ e env' with
            | st => rw [he] at hr; cases hr
            | ex x => rw [he] at hr; cases hr
            | ok y =>
              rw [he] at hr
              cases hr
              exact (hs y rfl).fut f3
  | .dcomp it tg own c e, S, H, σ, env, As, Q, s, k => by
    simp only [evE] at k
    refine corI E it true s (k.bind (Same.refl _) fun ds _ k => ?_)
    intro J S1 H1 f1 J1 z
    split at k
    · exact k.elim
    rename_i hw
    simp only [Bool.not_eq_true', Bool.not_eq_false] at hw
    intro D0 nD
    refine dcompC f1 J1 (fun H2 h1 h2 => ⟨h1, fun _ => h2⟩) (fun _ _ => noEx_ne) ?_ nD k
    intro d x S2 H2 Ps f2 ox r hr hs
    have hr := noEx_ok hr
    have sw := ((s.fut f1).fut f2).wipe own
    cases h1 : setTg tg d (wipeE env own) with
    | st => rw [h1] at hr; cases hr
    | ex x => rw [h1] at hr; cases hr
    | ok env' =>
      rw [h1] at hr
      refine setTgC sw h1 ox fun σ' As' s' l hk _ => ⟨?_, ?_⟩
      · refine wipe_same (by rw [l, wipe_length]) fun j hj => hk j fun hm => hj ?_
        have := List.all_eq_true.mp hw j hm
        simpa using this
      · change ((evE Φ c env').bind fun x => (R.of (keyOf x)).bind fun q => (evE Φ e env').bind fun y => .ok (q, y)) = .ok r at hr
        refine corE E0' c s' ?_
        cases hb : evE Φ c env' with
        | st => rw [hb] at hr; cases hr
        | ex x => rw [hb] at hr; cases hr
        | ok b =>
          rw [hb] at hr
          intro y S3 H3 B3 f3 o3 r3
          change ((R.of (keyOf b)).bind fun q => (evE Φ e env').bind fun y => .ok (q, y)) = .ok r at hr
          cases hq : keyOf b with
          | none => rw [hq] at hr; cases hr
          | some q =>
            rw [hq] at hr
            change ((evE Φ e env').bind fun y => .ok (q, y)) = .ok r at hr
            refine corE E0' e (s'.fut f3) ?_
            cases he : evE Φ e env' with
            | st => rw [he] at hr; cases hr
            | ex x => rw [he] at hr; cases hr
            | ok w =>
              rw [he] at hr
              cases hr
              intro u S4 H4 B4 f4 o4 r4
              rw [Own.key hq o3]
              exact hs u S4 H4 B4 (f3.trans f4) o4 (r4.back f3.hp)
  | .mn a b, S, H, σ, env, As, Q, s, k => by
    simp only [evE] at k
    refine corE E a s (k.bind (Same.refl _) fun x _ k => ?_)
    intro v S1 H1 B1 f1 o1 r1
    refine corE E b (s.fut f1) (k.bind f1.hp fun y _ k => ?_)
    intro u S2 H2 B2 f2 o2 r2
    obtain ⟨i, e1, k⟩ := k.ofBind
    obtain ⟨j, e2, k⟩ := k.ofBind
    obtain rfl : x = .int i := by cases x <;> cases e1 <;> rfl
    obtain rfl : y = .int j := by cases y <;> cases e2 <;> rfl
    exact ⟨i, j, by rw [o1.1, o2.1], KE.int k (f1.trans f2)⟩
  | .flt c i t, S, H, σ, env, As, Q, s, k => by
    simp only [evE] at k
    refine corE E c s (k.bind (Same.refl _) fun x _ k => ?_)
    intro v S1 H1 B1 f1 o1 r1
    split at k
    rotate_left
    · exact k.elim
    rename_i ds
    split at k
    rotate_left
    · exact k.elim
    rename_i h
    simp only [Bool.and_eq_true, decide_eq_true_eq] at h
    obtain ⟨a, vs, B', rfl, rfl, hq, ow⟩ := o1
    refine ⟨a, rfl, .inl ⟨vs, .inl (.inl hq), ?_⟩⟩
    intro D0 nD
    refine fltC f1 hq ow h.1.1 (r1.sub (List.sublist_cons_self _ _)) h.2 (by rw [s.len]; exact h.1.2) (fun _ _ => noEx_ne) ?_ nD k
    intro d x S2 H2 Pn f2 ox b hr hn
    have hr := noEx_ok hr
    have sw := ((s.fut f1).fut f2).wipe [i]
    cases h1 : setTg (.name i) (bb d) (wipeE env [i]) with
    | st => rw [h1] at hr; cases hr
    | ex x => rw [h1] at hr; cases hr
    | ok env' =>
      rw [h1] at hr
      refine setTgC (Q := fun σ2 H2 => tT K XR Φ E0' t σ2 H2 Pn) sw h1 ox fun σ' As' s' l hk _ => ?_
      refine corT E0' t s' ?_
      change evT Φ t env' = .ok b at hr
      rw [hr]
      exact hn
theorem corA (E : XK) : ∀ (cs : Cs) {S H : Hp} {σ : St} {env : Env} {As : Nat → List Addr} {Q : List V → Hp → Prop}, Sta K S H σ env As → Kont XR E H (evEs Φ cs env) (fun ds => KEs K S H ds Q) → tA K XR Φ E cs σ H Q
  | .nil, S, H, σ, env, As, Q, s, k => k [] S H [] (Fut.refl s.sub) ⟨rfl, rfl⟩ .nil
  | .cons c cs, S, H, σ, env, As, Q, s, k => by
    simp only [evEs] at k
    refine corE E c s (k.bind (Same.refl _) fun x _ k => ?_)
    intro v S1 H1 B1 f1 o1 r1
    refine corA E cs (s.fut f1) (k.bind f1.hp fun ds _ k => ?_)
    intro vs S2 H2 B2 f2 o2 r2
    exact k (v :: vs) S2 H2 (B1 ++ B2) (f1.trans f2) ⟨v, vs, B1, B2, rfl, rfl, o1.fut f2, o2⟩ (Fresh.app f2 f1.hp r1 (Own.there _ _ _ o1) r2)
theorem corO (E : XK) : ∀ (c : Co) {S H : Hp} {σ : St} {env : Env} {As : Nat → List Addr} {Q : Option Int → Hp → Prop}, Sta K S H σ env As → Kont XR E H (evO Φ c env) (fun d => ∀ S' H', Fut S H S' H' → Q d H') → tO K XR Φ E c σ H Q
  | .none, S, H, σ, env, As, Q, s, k => k S H (Fut.refl s.sub)
  | .some c, S, H, σ, env, As, Q, s, k => by
    simp only [evO] at k
    refine corE E c s (k.bind (Same.refl _) fun x _ k => ?_)
    intro v S1 H1 B1 f1 o1 r1
    obtain ⟨i, e, k⟩ := k.ofBind
    cases x <;> cases e
    exact ⟨_, o1.1, k S1 H1 f1⟩
theorem corTo (E : XK) : ∀ (c : To) {S H : Hp} {σ : St} {env : Env} {As : Nat → List Addr} {Q : Bool → Hp → Prop}, Sta K S H σ env As → Kont XR E H (evTo Φ c env) (fun b => KB S H b Q) → tTo K XR Φ E c σ H Q
  | .none, S, H, σ, env, As, Q, s, k => k S H (Fut.refl s.sub)
  | .some c, S, H, σ, env, As, Q, s, k => corT E c s k
theorem corT (E : XK) : ∀ (c : T) {S H : Hp} {σ : St} {env : Env} {As : Nat → List Addr} {Q : Bool → Hp → Prop}, Sta K S H σ env As → Kont XR E H (evT Φ c env) (fun b => KB S H b Q) → tT K XR Φ E c σ H Q
  | .v c, S, H, σ, env, As, Q, s, k => by
    simp only [evT] at k
    refine corE E c s (k.bind (Same.refl _) fun x _ k => ?_)
    intro v S1 H1 B1 f1 o1 r1
    obtain ⟨b, e, k⟩ := k.of
    exact ⟨b, truC f1.sub e o1, k S1 H1 f1⟩
  | .b c, S, H, σ, env, As, Q, s, k => by
    simp only [evT] at k
    refine corE E c s (k.bind (Same.refl _) fun x _ k => ?_)
    intro v S1 H1 B1 f1 o1 r1
    cases x <;> first | exact k.elim | skip
    exact ⟨_, o1.1, k S1 H1 f1⟩
  | .not t, S, H, σ, env, As, Q, s, k => by
    simp only [evT] at k
    exact corT E t s (k.bind (Same.refl _) fun b _ k => fun S1 H1 f1 => k S1 H1 f1)
  | .and ts, S, H, σ, env, As, Q, s, k => corTA E ts s (by simpa only [evT] using k)
  | .or ts, S, H, σ, env, As, Q, s, k => corTO E ts s (by simpa only [evT] using k)
theorem corTA (E : XK) : ∀ (ts : Ts) {S H : Hp} {σ : St} {env : Env} {As : Nat → List Addr} {Q : Bool → Hp → Prop}, Sta K S H σ env As → Kont XR E H (evTA Φ ts env) (fun b => KB S H b Q) → tTA K XR Φ E ts σ H Q
  | .nil, S, H, σ, env, As, Q, s, k => k S H (Fut.refl s.sub)
  | .cons t ts, S, H, σ, env, As, Q, s, k => by
    simp only [evTA] at k
    refine corT E t s (k.bind (Same.refl _) fun b _ k => fun S1 H1 f1 => ?_)
    cases b with
    | true => exact iff_tt (corTA E ts (s.fut f1) (Kont.imp k f1.hp fun d _ k => k.fut f1))
    | false => exact iff_ff (k S1 H1 f1)
theorem corTO (E : XK) : ∀ (ts : Ts) {S H : Hp} {σ : St} {env : Env} {As : Nat → List Addr} {Q : Bool → Hp → Prop}, Sta K S H σ env As → Kont XR E H (evTO Φ ts env) (fun b => KB S H b Q) → tTO K XR Φ E ts σ H Q
  | .nil, S, H, σ, env, As, Q, s, k => k S H (Fut.refl s.sub)
  | .cons t ts, S, H, σ, env, As, Q, s, k => by
    simp only [evTO] at k
    refine corT E t s (k.bind (Same.refl _) fun b _ k => fun S1 H1 f1 => ?_)
    cases b with
    | true => exact iff_tt (k S1 H1 f1)
    | false => exact iff_ff (corTO E ts (s.fut f1) (Kont.imp k f1.hp fun d _ k => k.fut f1))
theorem corAnds (E : XK) : ∀ (cs : Cs) {S H : Hp} {σ : St} {env : Env} {As : Nat → List Addr} {Q : VK}, Sta K S H σ env As → Kont XR E H (evAnd Φ cs env) (fun d => KE K S H d Q) → tAnds K XR Φ E cs σ H Q
  | .nil, S, H, σ, env, As, Q, s, k => KE.bl k (Fut.refl s.sub)
  | .cons c cs, S, H, σ, env, As, Q, s, k => by
    simp only [evAnd] at k
    refine corE E c s (k.bind (Same.refl _) fun x _ k => ?_)
    intro v S1 H1 B1 f1 o1 r1
    obtain ⟨b, rfl⟩ : ∃ b, x = .bl b := by
      cases x <;> first | exact ⟨_, rfl⟩ | exact k.elim
    refine ⟨b, o1.1, ?_⟩
    cases b with
    | true => exact iff_tt (corAnds E cs (s.fut f1) (Kont.imp k f1.hp fun d _ k => k.fut f1))
    | false => exact iff_ff (KE.bl k f1)
theorem corOrs (E : XK) : ∀ (cs : Cs) {S H : Hp} {σ : St} {env : Env} {As : Nat → List Addr} {Q : VK}, Sta K S H σ env As → Kont XR E H (evOr Φ cs env) (fun d => KE K S H d Q) → tOrs K XR Φ E cs σ H Q
  | .nil, S, H, σ, env, As, Q, s, k => KE.bl k (Fut.refl s.sub)
  | .cons c cs, S, H, σ, env, As, Q, s, k => by
    simp only [evOr] at k
    refine corE E c s (k.bind (Same.refl _) fun x _ k => ?_)
    intro v S1 H1 B1 f1 o1 r1
    obtain ⟨b, rfl⟩ : ∃ b, x = .bl b := by
      cases x <;> first | exact ⟨_, rfl⟩ | exact k.elim
    refine ⟨b, o1.1, ?_⟩
    cases b with
    | true => exact iff_tt (KE.bl k f1)
    | false => exact iff_ff (corOrs E cs (s.fut f1) (Kont.imp k f1.hp fun d _ k => k.fut f1))
theorem corI (E : XK) : ∀ (c : EV.It) (lv : Bool) {S H : Hp} {σ : St} {env : Env} {As : Nat → List Addr} {R : L2.It → Hp → Prop}, Sta K S H σ env As → Kont XR E H (evIt Φ c lv env) (fun ds => KI K lv S H ds R) → tI K XR Φ E c σ H R
  | .r1 a, lv, S, H, σ, env, As, R, s, k => by
    simp only [evIt] at k
    refine corE E a s (k.bind (Same.refl _) fun x _ k => ?_)
    intro v S1 H1 B1 f1 o1 r1
    obtain ⟨i, e, k2⟩ := k.ofBind
    obtain rfl : x = .int i := by cases x <;> cases e <;> rfl
    split at k2
    · rename_i h
      have h := rngOk_iff.mp h
      exact ⟨i, by rw [o1.1], h.1, h.2, k2 _ S1 H1 f1 itRng (.inr (isZs_ints _ _))⟩
    · exact k2.elim
  | .r2 a b, lv, S, H, σ, env, As, R, s, k => by
    simp only [evIt] at k
    refine corE E a s (k.bind (Same.refl _) fun x _ k => ?_)
    intro v S1 H1 B1 f1 o1 r1
    obtain ⟨i, e, k2⟩ := k.ofBind
    obtain rfl : x = .int i := by cases x <;> cases e <;> rfl
    refine corE E b (s.fut f1) (k2.bind f1.hp fun y _ k3 => ?_)
    intro u S2 H2 B2 f2 o2 r2
    obtain ⟨j, e, k4⟩ := k3.ofBind
    obtain rfl : y = .int j := by cases y <;> cases e <;> rfl
    split at k4
    · rename_i h
      rw [Bool.and_eq_true] at h
      have h1 := rngOk_iff.mp h.1
      have h2 := rngOk_iff.mp h.2
      exact ⟨i, j, by rw [o1.1, o2.1], ⟨h1.1, h1.2, h2.1, h2.2⟩, k4 _ S2 H2 (f1.trans f2) itRng (.inr (isZs_ints _ _))⟩
    · exact k4.elim
  | .seq c, lv, S, H, σ, env, As, R, s, k => by
    simp only [evIt] at k
    refine corE E c s (k.bind (Same.refl _) fun x _ k => ?_)
    intro v S1 H1 B1 f1 o1 r1
    obtain ⟨ds, e, k⟩ := k.of
    exact seqC e f1 o1 r1 k
end
end EV
namespace EV
open PySem L2
/-! ### statements as readings -/
def rPut : TSet := fun o i v H Q => rSetL o i v H Q ∨ ∃ a H4, o = .ref a ∧ DPut H a i v H4 ∧ Q H4
section
variable (K : PySem.W.Frag) (XR : Exc → Value → Option Addr → Hp → Prop) (Φ : Nat → FD)
def tP (i : Nat) : Cs → TE
  | .nil => tVar i
  | .cons k ks => tOp (rIxA K) (tP i ks) (tE K XR Φ E0' k)
mutual
def tS (E : XK) : S → TS
  | .asg t e => tAsg (tE K XR Φ E e) (gT K t)
  | .mvs i j => tAsg (tVar j) (gName i)
  | .aug i n e => tAug i (tE K XR Φ E e) (ipI fun a b => if n then a - b else a + b)
  | .app i path e => tDrop (tBM K "list" rAppend (tP K XR Φ i path) (tCons (tE K XR Φ E0' e) tNil))
  | .put i path k e => tAsg (tE K XR Φ E e) (gSub (tP K XR Φ i path) (tE K XR Φ E0' k) rPut)
  | .augp i path k n e => tAugS (tP K XR Φ i path) (tE K XR Φ E0' k) (tE K XR Φ E0' e) (fun o i H Q => rIxA K o i H Q) (ipI fun a b => if n then a - b else a + b) rPut
  | .expr e => tDrop (tE K XR Φ E e)
  | .ife t a b => tIfS (tT K XR Φ E t) (tSs E a) (tSs E b)
  | .whl _ t b => tWhile (tT K XR Φ E t) (tSs E b)
  | .fr it tg b => tFor (tI K XR Φ E it) (gT K tg) (tSs E b)
  | .ret e => tRet (tE K XR Φ E e)
  | .retn => tRetN
  | .retmv i => tRet (tVar i)
  | .brk => tBreak | .cont => tCont | .pass => tNext
  | .frz _ => tNext
  | .apop i j k => tDrop (tBM K "list" rAppend (tVar i) (tCons (tBM K "list" rPopAt (tVar j) (tCons (tE K XR Φ E0' k) tNil)) tNil))
  | .each i g e => tFor (iSeq K (tVar i)) (gName g) (tSeq (tDrop (tBM K "list" rAppend (tVar g) (tCons (tE K XR Φ E0' e) tNil))) tNext)
def tSs (E : XK) : Ss → TS
  | .nil => tNext
  | .cons s ss => tSeq (tS E s) (tSs E ss)
end
end
variable {K : PySem.W.Frag} {XR : Exc → Value → Option Addr → Hp → Prop} {Φ : Nat → FD} {S S' H H' S0 H0 S1 H1 : Hp} {σ : St} {env env' : Env} {As : Nat → List Addr}
/-! ### a held thing changed inside -/
theorem Owns.split : ∀ (ds : List D) (vs : List V) (B : List Addr) (j : Nat) (d : D), Owns K S H ds vs B → ds[j]? = some d →
    ∃ v B1 B2 B3, vs[j]? = some v ∧ B = B1 ++ B2 ++ B3 ∧ Own K S H d v B2 ∧ ∀ S' H' d' B', Same S S' → cleans ds = true → (∀ p ∈ B1 ++ B3, H' p = H p) → Own K S' H' d' v B' → Owns K S' H' (ds.set j d') vs (B1 ++ B' ++ B3)
  | [], vs, B, j, d, h, e => by simp at e
  | d0 :: ds, vs, B, 0, d, h, e => by
    obtain ⟨v, vs', B1, B2, rfl, rfl, r, rs⟩ := h
    simp at e
    subst e
    refine ⟨v, [], B1, B2, rfl, by simp, r, fun S' H' d' B' s c k o => ?_⟩
    simp only [cleans, Bool.and_eq_true] at c
    exact ⟨v, vs', B', B2, rfl, by simp, o, Owns.keep s ds vs' B2 (.inl c.2) (fun p hp => k p (by simp [hp])) rs⟩
  | d0 :: ds, vs, B, j + 1, d, h, e => by
    obtain ⟨v, vs', B1, B2, rfl, rfl, r, rs⟩ := h
    obtain ⟨u, C1, C2, C3, q1, rfl, q3, q4⟩ := Owns.split ds vs' B2 j d rs (by simpa using e)
    refine ⟨u, B1 ++ C1, C2, C3, by simpa using q1, by simp, q3, fun S' H' d' B' s c k o => ?_⟩
    simp only [cleans, Bool.and_eq_true] at c
    exact ⟨v, vs', B1, C1 ++ B' ++ C3, rfl, by simp, Own.keep s d0 v B1 (.inl c.1) (fun p hp => k p (by simp [hp])) r, q4 S' H' d' B' s c.2 (fun p hp => k p (by simp at hp ⊢; rcases hp with hp | hp <;> simp [hp])) o⟩
theorem lookK_ix {κ α : Type} [DecidableEq κ] : ∀ {ks : List κ} {ds : List α} {q : κ} {d : α}, ks.Nodup → lookK ks ds q = some d → ∃ j, ks[j]? = some q ∧ ds[j]? = some d ∧ ∀ x, setL q x ks ds = (ds.take ks.length).set j x
  | k :: ks, d0 :: ds, q, d, nd, e => by
    obtain ⟨h1, h2⟩ := List.nodup_cons.mp nd
    simp only [lookK] at e
    split at e
    · rename_i hk
      cases e
      subst hk
      have no : ∀ (ks : List κ) (ds : List α) (x : α), k ∉ ks → setL k x ks ds = ds.take ks.length := fun ks => by
        induction ks with
        | nil => intro ds x _; cases ds <;> rfl
        | cons k0 ks ih =>
          intro ds x h
          cases ds with
          | nil => rfl
          | cons d ds =>
            simp only [List.mem_cons, not_or] at h
            simp [setL, Ne.symm h.1, ih ds x h.2]
      exact ⟨0, rfl, rfl, fun x => by simp [setL, no ks ds x h1]⟩
    · rename_i hk
      obtain ⟨j, q1, q2, q3⟩ := lookK_ix h2 e
      exact ⟨j + 1, by simpa using q1, by simpa using q2, fun x => by simp [setL, hk, q3 x]⟩
  | [], ds, q, d, nd, e => by cases ds <;> cases e
  | k :: ks, [], q, d, nd, e => by cases e
theorem valV_ix {κ : Type} [DecidableEq κ] : ∀ {ks : List κ} {vs : List V} {q : κ} {j : Nat} {v : V}, ks.Nodup → ks[j]? = some q → vs[j]? = some v → valV (ks.zip vs) q = some v
  | k :: ks, v0 :: vs, q, 0, v, nd, e1, e2 => by simp at e1 e2; subst e1 e2; exact valV_pos rfl
  | k :: ks, v0 :: vs, q, j + 1, v, nd, e1, e2 => by
    obtain ⟨h1, h2⟩ := List.nodup_cons.mp nd
    have : ¬ k = q := fun e => h1 (by subst e; exact List.mem_of_getElem? (by simpa using e1))
    rw [List.zip_cons_cons, valV_neg (by exact this)]
    exact valV_ix h2 (by simpa using e1) (by simpa using e2)
  | [], vs, q, j, v, nd, e1, e2 => by simp at e1
  | k :: ks, [], q, j, v, nd, e1, e2 => by simp at e2
/-- a step into a held thing -/
theorem stepC {e0 kv e : D} {u0 y : V} {B0 By : List Addr} (s : Same S H) (c : clean e0 = true) (h : stepO e0 kv = some e) (o0 : Own K S H e0 u0 B0) (oy : Own K S H kv y By) :
    ∃ u C1 C C2, B0 = C1 ++ C ++ C2 ∧ clean e = true ∧ Own K S H e u C ∧ (∀ Q : VK, Q u H → rIxA K u0 y H Q) ∧
      ∀ S' H' e' C', Same S S' → (∀ p ∈ C1 ++ C2, H' p = H p) → Own K S' H' e' u C' → Own K S' H' (putO e0 kv e') u0 (C1 ++ C' ++ C2) := by
  have cl : ∀ (ds : List D) (j : Nat) (d : D), cleans ds = true → ds[j]? = some d → clean d = true := fun ds => by
    induction ds with
    | nil => intro j d _ e; simp at e
    | cons x xs ih =>
      intro j d c e
      simp only [cleans, Bool.and_eq_true] at c
      cases j with
      | zero => simp at e; subst e; exact c.1
      | succ j => exact ih j d c.2 (by simpa using e)
  unfold stepO at h
  split at h
  · rename_i ds i
    obtain ⟨q, vs, B', rfl, rfl, hq, ow⟩ := o0
    have cd : cleans ds = true := by simpa [clean] using c
    have l := Owns.length _ _ _ ow
    unfold L2.atI at h
    cases hj : ixN ds.length i with
    | none => rw [hj] at h; cases h
    | some j =>
      rw [hj] at h
      obtain ⟨u, D1, D2, D3, q1, rfl, q3, q4⟩ := Owns.split ds vs _ j e ow h
      refine ⟨u, q :: D1, D2, D3, by simp, cl ds j e cd h, q3, fun Q k => .inl ⟨q, vs, i, u, rfl, oy.1, .inl (.inl hq), ?_, k⟩, fun S' H' e' C' s' k o' => ?_⟩
      · unfold L2.atI; rw [← l, hj]; exact q1
      · simp only [putO, hj]
        exact ⟨q, vs, D1 ++ C' ++ D3, rfl, by simp, (k q (by simp)).trans hq, q4 S' H' e' C' s' cd (fun p hp => k p (by simp at hp ⊢; rcases hp with hp | hp <;> simp [hp])) o'⟩
  · rename_i ks ds
    obtain ⟨q, k0, hl⟩ := Option.bind_eq_some_iff.mp h
    obtain ⟨a, vs, B', rfl, rfl, ha, kl, ow⟩ := o0
    have cd : cleans ds = true := by simpa [clean] using c
    obtain ⟨j, j1, j2, j3⟩ := lookK_ix kl.2 hl
    obtain ⟨u, D1, D2, D3, q1, rfl, q3, q4⟩ := Owns.split ds vs _ j e ow j2
    have ll := Owns.length _ _ _ ow
    have ey := Own.key k0 oy
    refine ⟨u, a :: D1, D2, D3, by simp, cl ds j e cd j2, q3, fun Q k => .inr (.inr ⟨a, u, rfl, .inl ⟨_, q, .inl ha, ey, (valV_ix kl.2 j1 q1).symm⟩, k⟩), fun S' H' e' C' s' k o' => ?_⟩
    simp only [putO, k0, j3 e']
    rw [List.take_of_length_le (by rw [ll, kl.1]; exact Nat.le_refl _)]
    exact ⟨a, vs, D1 ++ C' ++ D3, rfl, by simp, (k a (by simp)).trans ha, kl, q4 S' H' e' C' s' cd (fun p hp => k p (by simp at hp ⊢; rcases hp with hp | hp <;> simp [hp])) o'⟩
  · rename_i ks ds es
    obtain ⟨q, k0, hl⟩ := Option.bind_eq_some_iff.mp h
    obtain ⟨a, vs, B', rfl, rfl, ha, kl, ow⟩ := o0
    have cd : cleans ds = true := by simpa [clean] using c
    obtain ⟨j, j1, j2, j3⟩ := lookK_ix kl.2 hl
    obtain ⟨u, D1, D2, D3, q1, rfl, q3, q4⟩ := Owns.split ds vs _ j e ow j2
    have ll := Owns.length _ _ _ ow
    obtain ⟨b, us, e2, q2, o2⟩ := Own.seqT s oy
    refine ⟨u, a :: D1, D2, D3, by simp, cl ds j e cd j2, q3, fun Q k => .inr (.inr ⟨a, u, rfl, .inr ⟨_, q, b, .inl ha, e2, by rw [← Owns.keys k0 o2]; exact q2, (valV_ix kl.2 j1 q1).symm⟩, k⟩), fun S' H' e' C' s' k o' => ?_⟩
    simp only [putO, k0, j3 e']
    rw [List.take_of_length_le (by rw [ll, kl.1]; exact Nat.le_refl _)]
    exact ⟨a, vs, D1 ++ C' ++ D3, rfl, by simp, (k a (by simp)).trans ha, kl, q4 S' H' e' C' s' cd (fun p hp => k p (by simp at hp ⊢; rcases hp with hp | hp <;> simp [hp])) o'⟩
  · cases h
/-- at the end of a path: what stands there, and how the whole is made again -/
def PathK (K : PySem.W.Frag) (S H : Hp) (d : D) (v : V) (A : List Addr) (ks : List D) (Q : VK) : Prop := ∃ e, getO d ks = some e ∧ ∀ S' H' u A1 B A2, Fut S H S' H' → A = A1 ++ B ++ A2 → clean e = true → Own K S' H' e u B →
  (∀ S2 H2 e' B', Same S' S2 → (∀ p ∈ A1 ++ A2, H2 p = H' p) → Own K S2 H2 e' u B' → Own K S2 H2 (setO d ks e') v (A1 ++ B' ++ A2)) → Q u H'
theorem pathC {E : XK} {i : Nat} {d : D} {v : V} (s : Sta K S H σ env As) (cd : clean d = true) (hd : env[i]? = some (some d)) (hv : σ[i]? = some (some v)) : ∀ (path : Cs) {Q : VK}, Kont XR E H (evP Φ path env) (fun ks => PathK K S H d v (As i) ks Q) → tP K XR Φ i path σ H Q
  | .nil, Q, k => by
    obtain ⟨e, h1, h2⟩ := k
    cases h1
    obtain ⟨v', hv', o⟩ := s.val i d hd
    rw [hv] at hv'
    cases hv'
    exact ⟨v, hv, h2 S H v [] (As i) [] (Fut.refl s.sub) (by simp) cd o fun S2 H2 e' B' _ _ o' => by simpa [setO] using o'⟩
  | .cons k ks, Q, kk => by
    simp only [evP] at kk
    refine pathC s cd hd hv ks (kk.bind (Same.refl _) fun vs _ kk => ?_)
    cases hk : evE Φ k env with
    | st => rw [hk] at kk; exact kk.elim
    | ex x => rw [hk] at kk; exact kk.elim
    | ok kv =>
      rw [hk] at kk
      obtain ⟨e, h1, h2⟩ := kk
      obtain ⟨e0, g1, g2⟩ := Option.bind_eq_some_iff.mp h1
      refine ⟨e0, g1, fun S' H' u A1 B A2 f hA c o reb => ?_⟩
      refine corE E0' k (s.fut f) ?_
      rw [hk]
      intro y S2 H2 By f2 oy ry
      obtain ⟨w, C1, C, C2, rfl, ce, oe, get, reb1⟩ := stepC f2.sub c g2 (o.fut f2) oy
      refine get Q (h2 S2 H2 w (A1 ++ C1) C (C2 ++ A2) (f.trans f2) (by rw [hA]; simp) ce oe fun S3 H3 e' B' s3 k3 o3 => ?_)
      have t : ∀ p ∈ As i, H2 p = H' p := fun p hp => by
        rcases (s.fut f).there i p hp with ⟨_, t⟩ | ⟨_, t⟩ | ⟨_, t⟩ <;> rw [t, f2.hp _ _ t]
      have r1 := reb1 S3 H3 e' B' s3 (fun p hp => k3 p (by simp at hp ⊢; rcases hp with hp | hp <;> simp [hp])) o3
      have r2 := reb S3 H3 (putO e0 kv e') (C1 ++ B' ++ C2) (f2.st.trans s3) (fun p hp => by
        rw [k3 p (by simp at hp ⊢; rcases hp with hp | hp <;> simp [hp])]
        exact t p (by rw [hA]; simp at hp ⊢; rcases hp with hp | hp <;> simp [hp])) r1
      simpa [setO, g1] using r2
end EV
namespace EV
open PySem L2
variable {K : PySem.W.Frag} {XR : Exc → Value → Option Addr → Hp → Prop} {Φ : Nat → FD} {Se He L S S' H H' S0 H0 S1 H1 : Hp} {σ : St} {env env' : Env} {As : Nat → List Addr} {E : XK}
def AsNew (He : Hp) (As : Nat → List Addr) : Prop := ∀ i, ∀ p ∈ As i, He p = none
/-- where a body stands: entered with (Se, He), L is kept shared, now at (S, H) -/
structure At (K : PySem.W.Frag) (Se He L S H : Hp) (σ : St) (env : Env) (As : Nat → List Addr) : Prop where
  sta : Sta K S H σ env As
  fut : Fut Se He S H
  low : Same L S
  new : AsNew He As
  cln : ∀ (i : Nat) (d : D), env[i]? = some (some d) → clean d = true
def KN (K : PySem.W.Frag) (Se He L : Hp) (env : Env) (P : St → Hp → Prop) : Prop := ∀ σ S H As, At K Se He L S H σ env As → P σ H
def KO (K : PySem.W.Frag) (Se He L : Hp) (D : Ends) (o : Out) : Prop := match o with
  | .nx e => KN K Se He L e D.nx
  | .rt d => KE K Se He d D.rt
  | .bk e => KN K Se He L e D.bk
  | .ct e => KN K Se He L e D.ct
theorem At.grow (a : At K Se He L S H σ env As) (f : Fut S H S' H') : At K Se He L S' H' σ env As := ⟨a.sta.fut f, a.fut.trans f, a.low.trans f.st, a.new, a.cln⟩
/-- a slot is stored: a value that was just made -/
theorem At.store {i : Nat} {d : D} {v : V} {B : List Addr} (a : At K Se He L S H σ env As) (hi : i < env.length) (c : clean d = true) (o : Own K S H d v B) (r : Fresh He S B) (dj : ∀ p ∈ B, ∀ j, j ≠ i → p ∉ As j) :
    At K Se He L S H (σ.set i (some v)) (env.set i (some d)) (fun j => if j = i then B else As j) :=
  ⟨a.sta.set hi o r.nd fun p hp => ⟨(r.new p hp).2, dj p hp⟩, a.fut, a.low, fun j p hp => by
    by_cases h : j = i
    · simp only [h, if_true] at hp; exact (r.new p hp).1
    · simp only [h, if_false] at hp; exact a.new j p hp, fun j x e => by
    by_cases h : j = i
    · subst h; rw [List.getElem?_set_self hi] at e; cases e; exact c
    · rw [List.getElem?_set_ne (Ne.symm h)] at e; exact a.cln j x e⟩
/-- fresh things are in no slot -/
theorem fresh_dj (s : Sta K S H σ env As) {B : List Addr} (r : Fresh H S' B) (i : Nat) : ∀ p ∈ B, ∀ j, j ≠ i → p ∉ As j := fun p hp j _ z => by
  have := (r.new p hp).1
  rcases s.there j p z with ⟨_, t⟩ | ⟨_, t⟩ | ⟨_, t⟩ <;> (rw [t] at this; cases this)
theorem get_ok {f : D → R Out} {i : Nat} {P : Out → Prop} (k : Kont XR E H ((get env i).bind f) P) : ∃ d, env[i]? = some (some d) ∧ Kont XR E H (f d) P := by
  cases e : get env i with
  | st => rw [e] at k; exact k.elim
  | ex x => unfold get at e; split at e <;> cases e
  | ok d => rw [e] at k; exact ⟨d, get_some e, k⟩
theorem noEx_k {α β : Type} {r : R α} {f : α → R β} {P : β → Prop} (k : Kont XR E H ((noEx r).bind f) P) : ∃ d, r = .ok d ∧ Kont XR E H (f d) P := by
  cases r with
  | st => exact k.elim
  | ex x => exact k.elim
  | ok d => exact ⟨d, rfl, k⟩
/-- the slot's thing made again behind a change inside -/
theorem At.change {i : Nat} {d : D} {v u : V} {path : List D} {A1 B A2 B' : List Addr} {e' : D} {q : Addr} {o : HO} (a : At K Se He L S H σ env As) (hi : env[i]? = some (some d)) (hv : σ[i]? = some (some v)) (hA : As i = A1 ++ (q :: B) ++ A2)
    (reb : ∀ S2 H2 e' B', Same S S2 → (∀ p ∈ A1 ++ A2, H2 p = H p) → Own K S2 H2 e' u B' → Own K S2 H2 (setO d path e') v (A1 ++ B' ++ A2)) (own : Own K S (upd H q o) e' u (q :: B')) (c : clean (setO d path e') = true)
    (nd : (A1 ++ (q :: B') ++ A2).Nodup) (new : ∀ p ∈ B', p ∉ B → He p = none ∧ S p = none ∧ ∀ j, j ≠ i → p ∉ As j) :
    At K Se He L S (upd H q o) σ (env.set i (some (setO d path e'))) (fun j => if j = i then A1 ++ (q :: B') ++ A2 else As j) := by
  have qi : q ∈ As i := by rw [hA]; simp
  have nq : S q = none := a.sta.out i q qi
  have heq : He q = none := a.new i q qi
  have hil : i < env.length := (List.getElem?_eq_some_iff.mp hi).1
  have sub : Same S (upd H q o) := same_updS a.sta.sub nq
  have nd0 : (A1 ++ (q :: B) ++ A2).Nodup := by rw [← hA]; exact a.sta.nd i
  have qA : q ∉ A1 ++ A2 := by
    simp only [List.append_assoc, List.nodup_append, List.cons_append, List.nodup_cons, List.mem_append, List.mem_cons] at nd0
    simp only [List.mem_append, not_or]
    exact ⟨fun h => nd0.2.2 q h q (.inl rfl) rfl, fun h => nd0.2.1.1 (.inr h)⟩
  have own2 := reb S (upd H q o) e' (q :: B') (Same.refl _) (fun p hp => upd_ne (by rintro rfl; exact qA hp)) own
  have inn : ∀ p ∈ A1 ++ (q :: B') ++ A2, p ∈ As i ∨ (He p = none ∧ S p = none ∧ ∀ j, j ≠ i → p ∉ As j) := fun p hp => by
    simp only [List.mem_append, List.mem_cons] at hp
    rcases hp with (h | rfl | h) | h
    · exact .inl (by rw [hA]; simp [h])
    · exact .inl qi
    · by_cases hb : p ∈ B
      · exact .inl (by rw [hA]; simp [hb])
      · exact .inr (new p h hb)
    · exact .inl (by rw [hA]; simp [h])
  have s2 : Sta K S (upd H q o) σ env (fun j => if j = i then [] else As j) → True := fun _ => trivial
  refine ⟨⟨sub, by simp [a.sta.len], fun j d' ej => ?_, fun j ej => ?_, fun j => ?_, fun j k hjk p hp => ?_, fun j p hp => ?_⟩, ⟨fun b u e => ?_, a.fut.st, sub, a.fut.new⟩, a.low, fun j p hp => ?_, fun j x ej => ?_⟩
  · by_cases h : j = i
    · subst h
      rw [List.getElem?_set_self hil] at ej
      cases ej
      exact ⟨v, hv, by simpa using own2⟩
    · rw [List.getElem?_set_ne (Ne.symm h)] at ej
      have c' := a.cln j d' ej
      obtain ⟨v', h1, h2⟩ := a.sta.val j d' ej
      refine ⟨v', h1, ?_⟩
      simp only [h, if_false]
      exact Own.keep (Same.refl _) _ _ _ (.inl c') (fun p hp => upd_ne (by rintro rfl; exact a.sta.dj i j (Ne.symm h) p qi hp)) h2
  · by_cases h : j = i
    · subst h
      exact absurd (List.getElem?_set_self hil) (ej _)
    · simp only [h, if_false]
      exact a.sta.emp j fun d' e' => ej d' (by rw [List.getElem?_set_ne (Ne.symm h)]; exact e')
  · by_cases h : j = i
    · simp only [h, if_true]; exact nd
    · simp only [h, if_false]; exact a.sta.nd j
  · by_cases h : j = i
    · subst h
      simp only [if_true] at hp
      simp only [Ne.symm hjk, if_false]
      rcases inn p hp with z | z
      · exact a.sta.dj j k hjk p z
      · exact z.2.2 k (Ne.symm hjk)
    · simp only [h, if_false] at hp
      by_cases h2 : k = i
      · subst h2
        simp only [if_true]
        intro z
        rcases inn p z with z | z
        · exact a.sta.dj j k hjk p hp z
        · exact z.2.2 j hjk hp
      · simp only [h2, if_false]; exact a.sta.dj j k hjk p hp
  · by_cases h : j = i
    · simp only [h, if_true] at hp
      rcases inn p hp with z | z
      · exact a.sta.out i p z
      · exact z.2.1
    · simp only [h, if_false] at hp; exact a.sta.out j p hp
  · rw [upd_ne (by rintro rfl; rw [heq] at e; cases e)]; exact a.fut.hp b u e
  · by_cases h : j = i
    · simp only [h, if_true] at hp
      rcases inn p hp with z | z
      · exact a.new i p z
      · exact z.1
    · simp only [h, if_false] at hp; exact a.new j p hp
  · by_cases h : j = i
    · subst h
      rw [List.getElem?_set_self hil] at ej
      cases ej
      exact c
    · rw [List.getElem?_set_ne (Ne.symm h)] at ej
      exact a.cln j x ej
theorem cleans_set : ∀ (ds : List D) (j : Nat) (x : D), cleans ds = true → clean x = true → cleans (ds.set j x) = true
  | [], j, x, _, _ => rfl
  | d :: ds, 0, x, c, cx => by simp only [cleans, Bool.and_eq_true] at c; simp [cleans, cx, c.2]
  | d :: ds, j + 1, x, c, cx => by simp only [cleans, Bool.and_eq_true] at c; simp [cleans, c.1, cleans_set ds j x c.2 cx]
theorem cleans_setL {κ : Type} [DecidableEq κ] (q : κ) (x : D) : ∀ (ks : List κ) (ds : List D), cleans ds = true → clean x = true → cleans (setL q x ks ds) = true
  | [], ds, _, _ => by cases ds <;> rfl
  | k :: ks, [], _, _ => rfl
  | k :: ks, d :: ds, c, cx => by
    simp only [cleans, Bool.and_eq_true] at c
    simp only [setL]
    split <;> simp [cleans, cx, c.1, cleans_setL q x ks ds c.2 cx]
theorem cleans_app : ∀ (a b : List D), cleans a = true → cleans b = true → cleans (a ++ b) = true
  | [], b, _, h => h
  | d :: a, b, c, h => by simp only [cleans, Bool.and_eq_true] at c; simp [cleans, c.1, cleans_app a b c.2 h]
theorem clean_putO {e k x : D} (c : clean e = true) (cx : clean x = true) : clean (putO e k x) = true := by
  unfold putO
  split
  · split
    · simp only [clean, Bool.and_eq_true] at c ⊢; exact ⟨c.1, cleans_set _ _ _ c.2 cx⟩
    · exact c
  · split
    · simp only [clean, Bool.and_eq_true] at c ⊢; exact ⟨c.1, cleans_setL _ _ _ _ c.2 cx⟩
    · exact c
  · split
    · simp only [clean, Bool.and_eq_true] at c ⊢; exact ⟨c.1, cleans_setL _ _ _ _ c.2 cx⟩
    · exact c
  · exact c
theorem clean_get : ∀ (ks : List D) {d e : D}, clean d = true → getO d ks = some e → clean e = true
  | [], d, e, c, h => by cases h; exact c
  | k :: ks, d, e, c, h => by
    obtain ⟨e0, h1, h2⟩ := Option.bind_eq_some_iff.mp h
    have c0 := clean_get ks c h1
    have cl : ∀ (ds : List D) (j : Nat) (d : D), cleans ds = true → ds[j]? = some d → clean d = true := fun ds => by
      induction ds with
      | nil => intro j d _ e; simp at e
      | cons x xs ih =>
        intro j d c e
        simp only [cleans, Bool.and_eq_true] at c
        cases j with
        | zero => simp at e; subst e; exact c.1
        | succ j => exact ih j d c.2 (by simpa using e)
    have ck : ∀ {κ : Type} [DecidableEq κ] (ks : List κ) (ds : List D) (q : κ) (d : D), cleans ds = true → lookK ks ds q = some d → clean d = true := fun ks => by
      induction ks with
      | nil => intro ds q d _ h; cases ds <;> cases h
      | cons k ks ih =>
        intro ds q d c h
        cases ds with
        | nil => cases h
        | cons x xs =>
          simp only [cleans, Bool.and_eq_true] at c
          simp only [lookK] at h
          split at h
          · cases h; exact c.1
          · exact ih xs q d c.2 h
    unfold stepO at h2
    split at h2
    · simp only [clean, Bool.and_eq_true] at c0
      unfold L2.atI at h2
      obtain ⟨j, _, h3⟩ := Option.bind_eq_some_iff.mp h2
      exact cl _ j e c0.2 h3
    · simp only [clean, Bool.and_eq_true] at c0
      obtain ⟨q, _, h3⟩ := Option.bind_eq_some_iff.mp h2
      exact ck _ _ q e c0.2 h3
    · simp only [clean, Bool.and_eq_true] at c0
      obtain ⟨q, _, h3⟩ := Option.bind_eq_some_iff.mp h2
      exact ck _ _ q e c0.2 h3
    · cases h2
theorem clean_setO : ∀ (ks : List D) {d x : D}, clean d = true → clean x = true → clean (setO d ks x) = true
  | [], d, x, _, cx => cx
  | k :: ks, d, x, c, cx => by
    simp only [setO]
    split
    · rename_i e h
      exact clean_setO ks c (clean_putO (clean_get ks c h) cx)
    · exact c
end EV
namespace EV
open PySem L2
variable {K : PySem.W.Frag} {XR : Exc → Value → Option Addr → Hp → Prop} {Φ : Nat → FD} {Se He L L' S S' H H' S0 H0 S1 H1 : Hp} {σ : St} {env env' : Env} {As : Nat → List Addr} {E : XK}
theorem At.lower (a : At K Se He L' S H σ env As) (l : Same L L') : At K Se He L S H σ env As := ⟨a.sta, a.fut, l.trans a.low, a.new, a.cln⟩
theorem KN.raise {P : St → Hp → Prop} (k : KN K Se He L env P) (l : Same L L') : KN K Se He L' env P := fun σ S H As a => k σ S H As (a.lower l)
theorem evP_ne : ∀ (path : Cs) (env : Env) (x : Exc), evP Φ path env ≠ .ex x
  | .nil, env, x, h => nomatch h
  | .cons k ks, env, x, h => by
    simp only [evP] at h
    cases e : evP Φ ks env with
    | st => rw [e] at h; cases h
    | ex y => exact evP_ne ks env y e
    | ok vs =>
      rw [e] at h
      cases e2 : evE Φ k env <;> rw [e2] at h <;> cases h
theorem nd_ins {α : Type} {L1 C2 L2 X : List α} (h : (L1 ++ C2 ++ L2).Nodup) (x : X.Nodup) (d : ∀ p ∈ X, p ∉ L1 ++ C2 ++ L2) : (L1 ++ X ++ L2).Nodup := by
  rw [List.append_assoc, List.nodup_append] at h
  obtain ⟨h1, h2, h3⟩ := h
  rw [List.nodup_append] at h2
  obtain ⟨h4, h5, h6⟩ := h2
  rw [List.append_assoc, List.nodup_append]
  refine ⟨h1, List.nodup_append.mpr ⟨x, h5, fun a ha b hb e => d a ha (by subst e; simp [hb])⟩, fun a ha b hb e => ?_⟩
  rcases List.mem_append.mp hb with hb | hb
  · exact d b hb (by subst e; simp [ha])
  · exact h3 a ha b (by simp [hb]) e
/-- a write at the end of a path -/
theorem At.write {i : Nat} {d e' : D} {v : V} {path : List D} {A1 A2 C1 C2 C3 X : List Addr} {q : Addr} {o : HO} {P : St → Hp → Prop} (a : At K Se He L S H σ env As) (hi : env[i]? = some (some d)) (hv : σ[i]? = some (some v))
    (hA : As i = A1 ++ (q :: (C1 ++ C2 ++ C3)) ++ A2) (reb : ∀ S2 H2 e' B', Same S S2 → (∀ p ∈ A1 ++ A2, H2 p = H p) → Own K S2 H2 e' (.ref q) B' → Own K S2 H2 (setO d path e') v (A1 ++ B' ++ A2))
    (own : Own K S (upd H q o) e' (.ref q) (q :: (C1 ++ X ++ C3))) (c : clean e' = true) (x : X.Nodup) (xn : ∀ p ∈ X, He p = none ∧ S p = none ∧ ∀ j, p ∉ As j)
    (k : KN K Se He L (env.set i (some (setO d path e'))) P) : P σ (upd H q o) := by
  have cd := a.cln i d hi
  have nd := a.sta.nd i
  rw [hA] at nd
  refine k _ _ _ _ (a.change hi hv hA reb own (clean_setO path cd c) ?_ fun p hp hb => ?_)
  · have e1 : A1 ++ (q :: (C1 ++ C2 ++ C3)) ++ A2 = (A1 ++ q :: C1) ++ C2 ++ (C3 ++ A2) := by simp
    have e2 : A1 ++ (q :: (C1 ++ X ++ C3)) ++ A2 = (A1 ++ q :: C1) ++ X ++ (C3 ++ A2) := by simp
    rw [e2]
    rw [e1] at nd
    exact nd_ins nd x fun p hp z => (xn p hp).2.2 i (by rw [hA, e1]; exact z)
  · have : p ∈ X := by
      simp only [List.mem_append, not_or] at hp hb
      rcases hp with (h | h) | h
      · exact absurd h hb.1.1
      · exact h
      · exact absurd h hb.2
    obtain ⟨h1, h2, h3⟩ := xn p this
    exact ⟨h1, h2, fun j _ => h3 j⟩
theorem reb_fut {d : D} {v u : V} {path : List D} {A1 B A2 : List Addr} {A : List Addr} (f : Fut S H S' H') (hA : A = A1 ++ B ++ A2) (t : ∀ p ∈ A, (∃ xs, H p = some (.lst xs)) ∨ (∃ kvs, H p = some (.dK kvs)) ∨ ∃ kvs, H p = some (.dT kvs))
    (reb : ∀ S2 H2 e' B', Same S S2 → (∀ p ∈ A1 ++ A2, H2 p = H p) → Own K S2 H2 e' u B' → Own K S2 H2 (setO d path e') v (A1 ++ B' ++ A2)) :
    ∀ S2 H2 e' B', Same S' S2 → (∀ p ∈ A1 ++ A2, H2 p = H' p) → Own K S2 H2 e' u B' → Own K S2 H2 (setO d path e') v (A1 ++ B' ++ A2) := fun S2 H2 e' B' s k o => by
  refine reb S2 H2 e' B' (f.st.trans s) (fun p hp => ?_) o
  rw [k p hp]
  rcases t p (by rw [hA]; simp at hp ⊢; rcases hp with hp | hp <;> simp [hp]) with ⟨_, t⟩ | ⟨_, t⟩ | ⟨_, t⟩ <;> rw [t, f.hp _ _ t]
/-- to the end of a path -/
theorem At.path {i : Nat} {d e : D} {path : Cs} {ks : List D} {Q : VK} (a : At K Se He L S H σ env As) (hi : env[i]? = some (some d)) (hp : evP Φ path env = .ok ks) (he : getO d ks = some e)
    (k : ∀ v u S' H' A1 B A2, σ[i]? = some (some v) → Fut S H S' H' → At K Se He L S' H' σ env As → As i = A1 ++ B ++ A2 → clean e = true → Own K S' H' e u B →
      (∀ S2 H2 e' B', Same S' S2 → (∀ p ∈ A1 ++ A2, H2 p = H' p) → Own K S2 H2 e' u B' → Own K S2 H2 (setO d ks e') v (A1 ++ B' ++ A2)) → Q u H') : tP K XR Φ i path σ H Q := by
  obtain ⟨v, hv, o⟩ := a.sta.val i d hi
  refine pathC (E := E0') a.sta (a.cln i d hi) hi hv path ?_
  rw [hp]
  exact ⟨e, he, fun S' H' u A1 B A2 f hA c o reb => k v u S' H' A1 B A2 hv f (a.grow f) hA c o reb⟩
theorem Owns.setV : ∀ (ds : List D) (vs : List V) (B : List Addr) (j : Nat), Owns K S H ds vs B → j < ds.length →
    ∃ B1 B2 B3, B = B1 ++ B2 ++ B3 ∧ ∀ S' H' x xv X, Same S S' → cleans ds = true → (∀ p ∈ B1 ++ B3, H' p = H p) → Own K S' H' x xv X → Owns K S' H' (ds.set j x) (vs.set j xv) (B1 ++ X ++ B3)
  | [], vs, B, j, h, l => by simp at l
  | d0 :: ds, vs, B, 0, h, l => by
    obtain ⟨v, vs', B1, B2, rfl, rfl, r, rs⟩ := h
    refine ⟨[], B1, B2, by simp, fun S' H' x xv X s c k o => ?_⟩
    simp only [cleans, Bool.and_eq_true] at c
    exact ⟨xv, vs', X, B2, rfl, by simp, o, Owns.keep s ds vs' B2 (.inl c.2) (fun p hp => k p (by simp [hp])) rs⟩
  | d0 :: ds, vs, B, j + 1, h, l => by
    obtain ⟨v, vs', B1, B2, rfl, rfl, r, rs⟩ := h
    obtain ⟨C1, C2, C3, rfl, q⟩ := Owns.setV ds vs' B2 j rs (by simpa using l)
    refine ⟨B1 ++ C1, C2, C3, by simp, fun S' H' x xv X s c k o => ?_⟩
    simp only [cleans, Bool.and_eq_true] at c
    exact ⟨v, vs'.set j xv, B1, C1 ++ X ++ C3, rfl, by simp, Own.keep s d0 v B1 (.inl c.1) (fun p hp => k p (by simp [hp])) r, q S' H' x xv X s c.2 (fun p hp => k p (by simp at hp ⊢; rcases hp with hp | hp <;> simp [hp])) o⟩
theorem putK_zip {κ : Type} [DecidableEq κ] {ks : List κ} {vs : List V} {q : κ} {x : V} (l : KL ks vs) : putK (ks.zip vs) q x = (putKs ks q).zip (putDs ks vs q x) ∧ KL (putKs ks q) (putDs ks vs q x) := by
  have any : ∀ (ks : List κ) (vs : List V), ks.length = vs.length → ((ks.zip vs).any fun kv => decide (kv.1 = q)) = decide (q ∈ ks) := fun ks => by
    induction ks with
    | nil => intro vs _; rfl
    | cons k ks ih =>
      intro vs l
      cases vs with
      | nil => cases l
      | cons v vs =>
        rw [List.zip_cons_cons, List.any_cons, ih vs (by simpa using l)]
        by_cases h : k = q
        · simp [h]
        · have h2 : ¬ q = k := fun e => h e.symm
          by_cases h3 : q ∈ ks <;> simp [h, h2, h3]
  have mp : ∀ (ks : List κ) (vs : List V), ((ks.zip vs).map fun kv => if kv.1 = q then (kv.1, x) else kv) = ks.zip (setL q x ks vs) := fun ks => by
    induction ks with
    | nil => intro vs; rfl
    | cons k ks ih =>
      intro vs
      cases vs with
      | nil => rfl
      | cons v vs =>
        rw [List.zip_cons_cons, List.map_cons, ih vs]
        simp only [setL]
        split <;> rfl
  have len : ∀ (ks : List κ) (vs : List V), ks.length = vs.length → ks.length = (setL q x ks vs).length := fun ks => by
    induction ks with
    | nil => intro vs _; cases vs <;> rfl
    | cons k ks ih =>
      intro vs l
      cases vs with
      | nil => cases l
      | cons v vs =>
        simp only [setL]
        split <;> simp [← ih vs (by simpa using l)]
  unfold putK
  rw [any ks vs l.1]
  unfold putKs putDs
  by_cases h : q ∈ ks
  · rw [if_pos (by simpa using h), if_pos h, if_pos h, mp]
    exact ⟨rfl, len ks vs l.1, l.2⟩
  · rw [if_neg (by simpa using h), if_neg h, if_neg h]
    refine ⟨by rw [List.zip_append l.1]; rfl, by simp [l.1], List.nodup_append.mpr ⟨l.2, by simp, fun a ha b hb e => ?_⟩⟩
    simp at hb
    subst e hb
    exact h ha
theorem Owns.putV {κ : Type} [DecidableEq κ] {ks : List κ} {ds : List D} {vs : List V} {B : List Addr} {q : κ} (l : KL ks vs) (o : Owns K S H ds vs B) :
    ∃ B1 B2 B3, B = B1 ++ B2 ++ B3 ∧ ∀ S' H' x xv X, Same S S' → cleans ds = true → (∀ p ∈ B1 ++ B3, H' p = H p) → Own K S' H' x xv X → Owns K S' H' (putDs ks ds q x) (putDs ks vs q xv) (B1 ++ X ++ B3) := by
  have ll := Owns.length _ _ _ o
  by_cases h : q ∈ ks
  · have lk : ∃ d, lookK ks ds q = some d := by
      have : ∀ (ks : List κ) (ds : List D), q ∈ ks → ks.length = ds.length → ∃ d, lookK ks ds q = some d := fun ks => by
        induction ks with
        | nil => intro ds h _; cases h
        | cons k ks ih =>
          intro ds h l
          cases ds with
          | nil => cases l
          | cons d ds =>
            by_cases e : k = q
            · exact ⟨d, by simp [lookK, e]⟩
            · have h' : q ∈ ks := by
                rcases List.mem_cons.mp h with h | h
                · exact absurd h.symm e
                · exact h
              obtain ⟨d', hd⟩ := ih ds h' (by simpa using l)
              exact ⟨d', by simp [lookK, e, hd]⟩
      exact this ks ds h (l.1.trans ll.symm)
    obtain ⟨d, hd⟩ := lk
    obtain ⟨j, j1, j2, j3⟩ := lookK_ix l.2 hd
    have jl : j < ds.length := (List.getElem?_eq_some_iff.mp j2).1
    obtain ⟨B1, B2, B3, e, f⟩ := Owns.setV ds vs B j o jl
    refine ⟨B1, B2, B3, e, fun S' H' x xv X s c k o' => ?_⟩
    have r := f S' H' x xv X s c k o'
    obtain ⟨v0, hv0⟩ : ∃ v0, lookK ks vs q = some v0 := by
      have : ∀ (ks : List κ) (vs : List V), q ∈ ks → ks.length = vs.length → ∃ d, lookK ks vs q = some d := fun ks => by
        induction ks with
        | nil => intro ds h _; cases h
        | cons k ks ih =>
          intro ds h l
          cases ds with
          | nil => cases l
          | cons d ds =>
            by_cases e : k = q
            · exact ⟨d, by simp [lookK, e]⟩
            · have h' : q ∈ ks := by
                rcases List.mem_cons.mp h with h | h
                · exact absurd h.symm e
                · exact h
              obtain ⟨d', hd⟩ := ih ds h' (by simpa using l)
              exact ⟨d', by simp [lookK, e, hd]⟩
      exact this ks vs h l.1
    obtain ⟨j', k1, k2, k3⟩ := lookK_ix l.2 hv0
    have ej : j' = j := by
      obtain ⟨a1, a2⟩ := List.getElem?_eq_some_iff.mp j1
      obtain ⟨b1, b2⟩ := List.getElem?_eq_some_iff.mp k1
      exact ((List.getElem_inj l.2).mp (a2.trans b2.symm)).symm
    subst ej
    unfold putDs
    rw [if_pos h, if_pos h, j3 x, k3 xv, List.take_of_length_le (by rw [ll, l.1]; exact Nat.le_refl _), List.take_of_length_le (by rw [l.1]; exact Nat.le_refl _)]
    exact r
  · refine ⟨B, [], [], by simp, fun S' H' x xv X s c k o' => ?_⟩
    unfold putDs
    rw [if_neg h, if_neg h]
    rw [List.append_nil]
    exact Owns.append _ _ _ _ _ _ (Owns.keep s ds vs B (.inl c) (fun p hp => k p (by simp [hp])) o) (Owns.one o')
theorem cleans_putDs {κ : Type} [DecidableEq κ] {ks : List κ} {ds : List D} {q : κ} {x : D} (c : cleans ds = true) (cx : clean x = true) : cleans (putDs ks ds q x) = true := by
  unfold putDs
  split
  · exact cleans_setL _ _ _ _ c cx
  · exact cleans_app _ _ c (by simp [cleans, cx])
/-- e[k] = x, where e is held -/
theorem storeC {e kv x e' : D} {u y xv : V} {B By X : List Addr} (s : Same S H) (c : clean e = true) (cx : clean x = true) (h : storeO e kv x = some e') (o0 : Own K S H e u B) (oy : Own K S H kv y By) (ox : Own K S H x xv X)
    (nq : ∀ q ∈ B, q ∉ X) (nd : B.Nodup) : ∃ q o C1 C2 C3, u = .ref q ∧ B = q :: (C1 ++ C2 ++ C3) ∧ clean e' = true ∧ (S q = none → Own K S (upd H q o) e' u (q :: (C1 ++ X ++ C3))) ∧ ∀ Q : Hp → Prop, Q (upd H q o) → rPut u y xv H Q := by
  unfold storeO at h
  split at h
  · rename_i ds i
    obtain ⟨j, hj, rfl⟩ := Option.map_eq_some_iff.mp h
    obtain ⟨q, vs, B', rfl, rfl, hq, ow⟩ := o0
    have cd : cleans ds = true := by simpa [clean] using c
    have l := Owns.length _ _ _ ow
    have jl : j < ds.length := (ixN_seq hj).2.1
    obtain ⟨B1, B2, B3, rfl, f⟩ := Owns.setV ds vs B' j ow jl
    obtain ⟨qn, _⟩ := List.nodup_cons.mp nd
    refine ⟨q, .lst (vs.set j xv), B1, B2, B3, rfl, rfl, by simp [clean, cleans_set ds j x cd cx], fun sq => ⟨q, vs.set j xv, B1 ++ X ++ B3, rfl, rfl, upd_same, f S _ x xv X (Same.refl _) cd (fun p hp => upd_ne (by rintro rfl; exact qn (by simp at hp ⊢; rcases hp with hp | hp <;> simp [hp]))) ?_⟩, fun Q k => .inl ⟨q, vs, i, j, rfl, oy.1, hq, by rw [← l]; exact hj, k⟩⟩
    exact Own.keep (Same.refl _) _ _ _ (.inl cx) (fun p hp => upd_ne (by rintro rfl; exact nq p (by simp) hp)) ox
  · rename_i ks ds
    obtain ⟨k0, e0, h2⟩ := Option.bind_eq_some_iff.mp h
    split at h2 <;> cases h2
    rename_i hl
    obtain ⟨q, vs, B', rfl, rfl, hq, kl, ow⟩ := o0
    have cd : cleans ds = true := by simpa [clean] using c
    obtain ⟨B1, B2, B3, rfl, f⟩ := Owns.putV (q := k0) kl ow
    obtain ⟨qn, _⟩ := List.nodup_cons.mp nd
    obtain ⟨z1, z2⟩ := putK_zip (q := k0) (x := xv) kl
    refine ⟨q, .dK (putK (ks.zip vs) k0 xv), B1, B2, B3, rfl, rfl, by simp [clean, cleans_putDs cd cx], fun sq => ⟨q, putDs ks vs k0 xv, B1 ++ X ++ B3, rfl, rfl, by rw [upd_same, z1], z2, f S _ x xv X (Same.refl _) cd (fun p hp => upd_ne (by rintro rfl; exact qn (by simp at hp ⊢; rcases hp with hp | hp <;> simp [hp]))) ?_⟩, fun Q k => .inr ⟨q, _, rfl, .inl ⟨_, k0, hq, Own.key e0 oy, by rw [List.length_zip, kl.1]; simpa [kl.1] using hl, rfl⟩, k⟩⟩
    exact Own.keep (Same.refl _) _ _ _ (.inl cx) (fun p hp => upd_ne (by rintro rfl; exact nq p (by simp) hp)) ox
  · rename_i ks ds es
    obtain ⟨k0, e0, h2⟩ := Option.bind_eq_some_iff.mp h
    split at h2 <;> cases h2
    rename_i hl
    obtain ⟨q, vs, B', rfl, rfl, hq, kl, ow⟩ := o0
    have cd : cleans ds = true := by simpa [clean] using c
    obtain ⟨B1, B2, B3, rfl, f⟩ := Owns.putV (q := k0) kl ow
    obtain ⟨qn, _⟩ := List.nodup_cons.mp nd
    obtain ⟨z1, z2⟩ := putK_zip (q := k0) (x := xv) kl
    obtain ⟨b, us, e2, q2, o2⟩ := Own.seqT s oy
    refine ⟨q, .dT (putK (ks.zip vs) k0 xv), B1, B2, B3, rfl, rfl, by simp [clean, cleans_putDs cd cx], fun sq => ⟨q, putDs ks vs k0 xv, B1 ++ X ++ B3, rfl, rfl, by rw [upd_same, z1], z2, f S _ x xv X (Same.refl _) cd (fun p hp => upd_ne (by rintro rfl; exact qn (by simp at hp ⊢; rcases hp with hp | hp <;> simp [hp]))) ?_⟩, fun Q k => .inr ⟨q, _, rfl, .inr ⟨_, k0, b, hq, e2, by rw [← Owns.keys e0 o2]; exact q2, by rw [List.length_zip, kl.1]; simpa [kl.1] using hl, rfl⟩, k⟩⟩
    exact Own.keep (Same.refl _) _ _ _ (.inl cx) (fun p hp => upd_ne (by rintro rfl; exact nq p (by simp) hp)) ox
  · cases h
end EV
namespace EV
open PySem L2
variable {K : PySem.W.Frag} {XR : Exc → Value → Option Addr → Hp → Prop} {Φ : Nat → FD} {Se He L L' S S' H H' S0 H0 S1 H1 : Hp} {σ : St} {env env' : Env} {As : Nat → List Addr} {E : XK}
theorem atO_inv {i : Nat} {path : List D} {f : D → Option D} {g : Env → R Out} {P : Out → Prop} (k : Kont XR E H ((atO env i path f).bind g) P) :
    ∃ d e e', env[i]? = some (some d) ∧ getO d path = some e ∧ f e = some e' ∧ Kont XR E H (g (env.set i (some (setO d path e')))) P := by
  unfold atO at k
  cases h : get env i with
  | st => rw [h] at k; exact k.elim
  | ex x => unfold get at h; split at h <;> cases h
  | ok d =>
    rw [h] at k
    cases h2 : (getO d path).bind f with
    | none =>
      have : Kont XR E H ((R.st : R Env).bind g) P := by simpa [R.bind, h2, R.of] using k
      exact this.elim
    | some e' =>
      obtain ⟨e, h3, h4⟩ := Option.bind_eq_some_iff.mp h2
      refine ⟨d, e, e', get_some h, h3, h4, ?_⟩
      simpa [R.bind, h2, R.of] using k
theorem isZs_at : ∀ (ds : List D) (i : Nat) (d : D), isZs ds = true → ds[i]? = some d → isZ d = true
  | [], i, d, _, e => by simp at e
  | x :: xs, 0, d, z, e => by
    simp only [isZs, Bool.and_eq_true] at z
    simp at e
    subst e
    exact z.1
  | x :: xs, i + 1, d, z, e => by
    simp only [isZs, Bool.and_eq_true] at z
    exact isZs_at xs i d z.2 (by simpa using e)
/-- x.append(y) at the end of a path: the value y comes from t -/
theorem appC {i : Nat} {path : Cs} {ks : List D} {x d e e' : D} {t : TE} {P : St → Hp → Prop} {Dn : Ends} (a : At K Se He L S H σ env As) (hp : evP Φ path env = .ok ks) (hi : env[i]? = some (some d)) (he : getO d ks = some e) (h2 : appO e x = some e') (cx : clean x = true)
    (tc : ∀ S' H' (Q : VK), Fut S H S' H' → (∀ v S2 H2 X, Fut S' H' S2 H2 → Own K S2 H2 x v X → X.Nodup → (∀ p ∈ X, He p = none ∧ S2 p = none ∧ ∀ j, p ∉ As j) → Q v H2) → t σ H' Q)
    (k : KN K Se He L (env.set i (some (setO d ks e'))) Dn.nx) : tDrop (tBM K "list" rAppend (tP K XR Φ i path) (tCons t tNil)) Dn σ H := by
  refine a.path hi hp he fun v u S' H' A1 B A2 hv f a' hA c o reb => ?_
  cases e <;> try (cases h2)
  rename_i fl ds
  cases fl <;> try (cases h2)
  simp only [appO] at h2
  split at h2 <;> cases h2
  rename_i hl
  obtain ⟨q, vs, B', rfl, rfl, hq, ow⟩ := o
  have cd : cleans ds = true := by simpa [clean] using c
  have l := Owns.length _ _ _ ow
  refine ⟨.inl ⟨rfl, vs, .inl (.inl hq)⟩, ?_⟩
  refine tc S' H' _ f fun y S2 H2 X f2 ox nd xn => ?_
  have a2 := a'.grow f2
  have hq2 := f2.hp _ _ hq
  have qi : q ∈ As i := by rw [hA]; simp
  refine ⟨q, vs, y, rfl, rfl, hq2, by rw [← l]; exact hl, ?_⟩
  have nqB : q ∉ B' := by
    have := a.sta.nd i
    rw [hA] at this
    simp only [List.append_assoc, List.nodup_append, List.cons_append, List.nodup_cons, List.mem_append] at this
    exact fun z => this.2.1.1 (.inl z)
  refine a2.write (e' := .lst .o (ds ++ [x])) (C1 := B') (C2 := []) (C3 := []) (X := X) hi hv (by rw [hA]; simp) (reb_fut f2 hA (a'.sta.there i) reb) ⟨q, vs ++ [y], B' ++ X, rfl, by simp, upd_same, Owns.append _ _ _ _ _ _ ?_ (Owns.one ?_)⟩ ?_ nd xn k
  · exact Owns.keep (Same.refl _) _ _ _ (.inl cd) (fun p hp => upd_ne (by rintro rfl; exact nqB hp)) (ow.fut f2)
  · exact Own.keep (Same.refl _) _ _ _ (.inl cx) (fun p hp => upd_ne (by rintro rfl; exact (xn p hp).2.2 i qi)) ox
  · simp [clean, cleans_app ds [x] cd (by simp [cleans, cx])]
theorem evE_own (c : C) {x : D} (h : evE Φ c env = .ok x) (a : At K Se He L S H σ env As) (S' H' : Hp) (Q : VK) (f : Fut S H S' H') (k : ∀ v S2 H2 X, Fut S' H' S2 H2 → Own K S2 H2 x v X → X.Nodup → (∀ p ∈ X, He p = none ∧ S2 p = none ∧ ∀ j, p ∉ As j) → Q v H2) :
    tE K XR Φ E0' c σ H' Q := by
  have a' := a.grow f
  refine corE E0' c a'.sta ?_
  rw [h]
  intro v S2 H2 X f2 o r
  exact k v S2 H2 X f2 o r.nd fun p hp => ⟨Same.none a'.fut.hp (r.new p hp).1, (r.new p hp).2, fun j z => fresh_dj a'.sta r (j + 1) p hp j (by omega) z⟩
/-- a slot let go -/
theorem Sta.drop (s : Sta K S H σ env As) (j : Nat) : Sta K S H σ (env.set j none) (fun l => if l = j then [] else As l) := by
  refine ⟨s.sub, by simp [s.len], fun l d' e => ?_, fun l e => ?_, fun l => ?_, fun l m hlm p hp => ?_, fun l p hp => ?_⟩
  · by_cases hl : l = j
    · subst hl
      by_cases h : l < env.length
      · rw [List.getElem?_set_self h] at e; cases e
      · rw [List.getElem?_eq_none (by simp; omega)] at e; cases e
    · rw [List.getElem?_set_ne (Ne.symm hl)] at e
      simp only [hl, if_false]
      exact s.val l d' e
  · by_cases hl : l = j
    · simp [hl]
    · simp only [hl, if_false]
      exact s.emp l fun d' e' => e d' (by rw [List.getElem?_set_ne (Ne.symm hl)]; exact e')
  · by_cases hl : l = j
    · simp [hl]
    · simp only [hl, if_false]; exact s.nd l
  · by_cases hl : l = j
    · simp [hl] at hp
    · simp only [hl, if_false] at hp
      by_cases hm : m = j
      · simp [hm]
      · simp only [hm, if_false]; exact s.dj l m hlm p hp
  · by_cases hl : l = j
    · simp [hl] at hp
    · simp only [hl, if_false] at hp; exact s.out l p hp
theorem At.drop (a : At K Se He L S H σ env As) (j : Nat) : At K Se He L S H σ (env.set j none) (fun l => if l = j then [] else As l) :=
  ⟨a.sta.drop j, a.fut, a.low, fun l p hp => by
    by_cases hl : l = j
    · simp [hl] at hp
    · simp only [hl, if_false] at hp; exact a.new l p hp, fun l x e => by
    by_cases hl : l = j
    · subst hl
      by_cases h : l < env.length
      · rw [List.getElem?_set_self h] at e; cases e
      · rw [List.getElem?_eq_none (by simp; omega)] at e; cases e
    · rw [List.getElem?_set_ne (Ne.symm hl)] at e; exact a.cln l x e⟩
/-- a slot that is not in use stored over -/
theorem At.over (a : At K Se He L S H σ env As) {j : Nat} (v : V) (h : ∀ d, env[j]? ≠ some (some d)) : At K Se He L S H (σ.set j (some v)) env As :=
  ⟨⟨a.sta.sub, by simp [a.sta.len], fun l d e => by
    have hl : l ≠ j := fun e2 => h d (by rw [← e2]; exact e)
    rw [List.getElem?_set_ne (Ne.symm hl)]
    exact a.sta.val l d e, a.sta.emp, a.sta.nd, a.sta.dj, a.sta.out⟩, a.fut, a.low, a.new, a.cln⟩
theorem Owns.erase : ∀ (ds : List D) (vs : List V) (B : List Addr) (m : Nat) (x : D), Owns K S H ds vs B → ds[m]? = some x → isZ x = true → ∃ v, vs[m]? = some v ∧ Own K S H x v [] ∧ Owns K S H (ds.eraseIdx m) (vs.eraseIdx m) B
  | [], vs, B, m, x, h, e, z => by simp at e
  | d :: ds, vs, B, 0, x, h, e, z => by
    obtain ⟨v, vs', B1, B2, rfl, rfl, o1, o2⟩ := h
    simp at e
    subst e
    obtain ⟨rfl, o3⟩ := Own.ofZ (H' := H) d v B1 z o1
    exact ⟨v, rfl, o3, o2⟩
  | d :: ds, vs, B, m + 1, x, h, e, z => by
    obtain ⟨v, vs', B1, B2, rfl, rfl, o1, o2⟩ := h
    obtain ⟨u, h1, h2, h3⟩ := Owns.erase ds vs' B2 m x o2 (by simpa using e) z
    exact ⟨u, by simpa using h1, h2, v, vs'.eraseIdx m, B1, B2, rfl, rfl, o1, h3⟩
theorem cleans_erase : ∀ (ds : List D) (m : Nat), cleans ds = true → cleans (ds.eraseIdx m) = true
  | [], m, h => h
  | d :: ds, 0, h => by simp only [cleans, Bool.and_eq_true] at h; exact h.2
  | d :: ds, m + 1, h => by
    simp only [cleans, Bool.and_eq_true] at h
    simp [cleans, h.1, cleans_erase ds m h.2]
/-- a held list written over by a list of the same things, or fewer -/
theorem At.rewrite {i : Nat} {q : Addr} {ds es : List D} {us : List V} {B : List Addr} (a : At K Se He L S H σ env As) (hi : env[i]? = some (some (.lst .o ds))) (hv : σ[i]? = some (some (.ref q))) (hA : As i = q :: B)
    (ow : Owns K S H es us B) (c : cleans es = true) : At K Se He L S (upd H q (.lst us)) σ (env.set i (some (.lst .o es))) As := by
  have nd := a.sta.nd i
  rw [hA] at nd
  have qB := (List.nodup_cons.mp nd).1
  have r := a.change (path := []) (A1 := []) (A2 := []) (B := B) (B' := B) (e' := .lst .o es) (q := q) (o := .lst us) (u := .ref q) hi hv (by simp [hA]) (fun S2 H2 e' B' s k o => by simpa [setO] using o)
    ⟨q, us, B, rfl, rfl, upd_same, Owns.keep (Same.refl _) _ _ _ (.inl c) (fun p hp => upd_ne (by rintro rfl; exact qB hp)) ow⟩ (by simpa [setO, clean] using c) (by simpa using nd) (fun p hp hb => absurd hp hb)
  have e : (fun j => if j = i then [] ++ (q :: B) ++ [] else As j) = As := by
    funext j
    by_cases h : j = i
    · subst h; simp [hA]
    · simp [h]
  rw [e] at r
  exact r
theorem Owns.item (ds : List D) (vs : List V) (B : List Addr) (m : Nat) (es : List D) (h : Owns K S H ds vs B) (c : cleans ds = true) (e : ds[m]? = some (.lst .o es)) :
    ∃ q us B1 B2 B3, vs[m]? = some (.ref q) ∧ H q = some (.lst us) ∧ B = B1 ++ (q :: B2) ++ B3 ∧ Owns K S H es us B2 ∧ cleans es = true ∧
      ∀ S' H' d' B', Same S S' → (∀ p ∈ B1 ++ B3, H' p = H p) → Own K S' H' d' (.ref q) B' → Owns K S' H' (ds.set m d') vs (B1 ++ B' ++ B3) := by
  obtain ⟨v, B1, B2, B3, h1, rfl, h3, h4⟩ := Owns.split ds vs B m _ h e
  obtain ⟨q, us, B', rfl, rfl, hq, ow⟩ := h3
  have ce : cleans es = true := by
    have cl : ∀ (ds : List D) (j : Nat) (d : D), cleans ds = true → ds[j]? = some d → clean d = true := fun ds => by
      induction ds with
      | nil => intro j d _ e; simp at e
      | cons x xs ih =>
        intro j d c e
        simp only [cleans, Bool.and_eq_true] at c
        cases j with
        | zero => simp at e; subst e; exact c.1
        | succ j => exact ih j d c.2 (by simpa using e)
    simpa [clean] using cl ds m _ c e
  exact ⟨q, us, B1, B', B3, h1, hq, rfl, ow, ce, fun S' H' d' B' s k o => h4 S' H' d' B' s c k o⟩
theorem isZ_clean' {d : D} (h : isZ d = true) : clean d = true := isZ_clean d h
/-- items, the first n of them with x behind -/
def eachN (x : D) (n : Nat) (ds : List D) : List D := (ds.take n).map (fun t => (appO t x).getD t) ++ ds.drop n
theorem eachN_get {x : D} {n : Nat} {ds : List D} (h : n < ds.length) : (eachN x n ds)[n]? = some ds[n] := by
  unfold eachN
  rw [List.getElem?_append_right (by simp; omega)]
  have : n - ((ds.take n).map fun t => (appO t x).getD t).length = 0 := by simp; omega
  rw [this, List.getElem?_drop]
  simpa using List.getElem?_eq_getElem h
theorem eachN_set {x : D} {n : Nat} {ds : List D} (h : n < ds.length) : (eachN x n ds).set n ((appO ds[n] x).getD ds[n]) = eachN x (n + 1) ds := by
  unfold eachN
  rw [List.take_succ_eq_append_getElem h, List.map_append]
  rw [List.set_append_right _ _ (by simp; omega)]
  have : n - ((ds.take n).map fun t => (appO t x).getD t).length = 0 := by simp; omega
  rw [this, List.drop_eq_getElem_cons h, List.set_cons_zero, List.append_assoc]
  rfl
theorem cleans_map {f : D → D} (hf : ∀ d, clean d = true → clean (f d) = true) : ∀ ds : List D, cleans ds = true → cleans (ds.map f) = true
  | [], h => h
  | d :: ds, h => by
    simp only [cleans, Bool.and_eq_true] at h
    simp [cleans, hf d h.1, cleans_map hf ds h.2]
theorem cleans_take : ∀ (ds : List D) (n : Nat), cleans ds = true → cleans (ds.take n) = true
  | [], n, h => by simpa using h
  | d :: ds, 0, h => rfl
  | d :: ds, n + 1, h => by
    simp only [cleans, Bool.and_eq_true] at h
    simp [cleans, h.1, cleans_take ds n h.2]
theorem cleans_drop : ∀ (ds : List D) (n : Nat), cleans ds = true → cleans (ds.drop n) = true
  | [], n, h => by simpa using h
  | d :: ds, 0, h => h
  | d :: ds, n + 1, h => by
    simp only [cleans, Bool.and_eq_true] at h
    exact cleans_drop ds n h.2
theorem clean_app1 {x d : D} (cx : clean x = true) (c : clean d = true) : clean ((appO d x).getD d) = true := by
  unfold appO
  split
  · split
    · simp only [Option.getD_some]
      simp only [clean, Bool.and_eq_true] at c ⊢
      exact ⟨c.1, cleans_snoc _ _ c.2 cx⟩
    · exact c
  · exact c
theorem cleans_eachN {x : D} {n : Nat} {ds : List D} (cx : clean x = true) (c : cleans ds = true) : cleans (eachN x n ds) = true :=
  cleans_app _ _ (cleans_map (fun d h => clean_app1 cx h) _ (cleans_take _ _ c)) (cleans_drop _ _ c)
theorem popO_inv {d : D} {n : Int} {r : D × D} (h : popO d n = some r) : ∃ ds m x, d = .lst .o ds ∧ ixN ds.length n = some m ∧ ds[m]? = some x ∧ isZ x = true ∧ (-(2 ^ 63) ≤ n ∧ n < 2 ^ 63) ∧ r = (x, .lst .o (ds.eraseIdx m)) := by
  unfold popO at h
  split at h
  · obtain ⟨m, hm, h⟩ := Option.bind_eq_some_iff.mp h
    obtain ⟨x, hx, h⟩ := Option.bind_eq_some_iff.mp h
    split at h
    · rename_i hz
      simp only [Bool.and_eq_true] at hz
      have hr := rngOk_iff.mp hz.2
      cases h
      exact ⟨_, m, x, rfl, hm, hx, hz.1, ⟨by omega, by omega⟩, rfl⟩
    · cases h
  · cases h
theorem appO_inv {e x e' : D} (h : appO e x = some e') : ∃ es, e = .lst .o es ∧ es.length < sizeLine ∧ e' = .lst .o (es ++ [x]) := by
  unfold appO at h
  split at h
  · split at h
    · cases h
      exact ⟨_, rfl, by assumption, rfl⟩
    · cases h
  · cases h
theorem eachO_inv {x d d' : D} (h : eachO x d = some d') : ∃ ds, d = .lst .o ds ∧ (ds.all fun t => (appO t x).isSome) = true ∧ d' = .lst .o (ds.map fun t => (appO t x).getD t) := by
  unfold eachO at h
  split at h
  · split at h
    · cases h
      exact ⟨_, rfl, by assumption, rfl⟩
    · cases h
  · cases h
mutual
theorem corS (E : XK) : ∀ (st : EV.S) {L S H : Hp} {σ : St} {env : Env} {As : Nat → List Addr} {Dn : Ends}, At K Se He L S H σ env As → Kont XR E He (evS Φ st env) (KO K Se He L Dn) → tS K XR Φ E st Dn σ H
  | .asg t e, L, S, H, σ, env, As, Dn, a, k => by
    simp only [evS] at k
    refine corE E e a.sta (k.bind a.fut.hp fun d _ k => ?_)
    intro v S1 H1 B f o r
    have a1 := a.grow f
    cases t with
    | name i =>
      have k : Kont XR E He (if (clean d && decide (i < env.length)) = true then R.ok (Out.nx (env.set i (some d))) else R.st) (KO K Se He L Dn) := k
      split at k
      · rename_i h
        simp only [Bool.and_eq_true, decide_eq_true_eq] at h
        exact k _ _ _ _ (a1.store h.2 h.1 o (r.back a.fut.hp) (fresh_dj a.sta r i))
      · exact k.elim
    | tup is =>
      have k : Kont XR E He (if isZ d = true then (setTg (.tup is) d env).bind fun env' => R.ok (Out.nx env') else R.st) (KO K Se He L Dn) := k
      split at k
      · rename_i z
        obtain ⟨rfl, _⟩ := Own.ofZ (H' := H1) d v B z o
        cases h : setTg (.tup is) d env with
        | st => rw [h] at k; exact k.elim
        | ex x => exact absurd h setTg_ne
        | ok env' =>
          rw [h] at k
          exact setTgC a1.sta h o fun σ' As' s' l hk hA => k σ' _ _ _ ⟨s', a1.fut, a1.low, fun j p hp => a1.new j p (hA j p hp), fun j x e => (setTg_z h z j x e).elim (a1.cln j x) (isZ_clean x)⟩
      · exact k.elim
  | .mvs i j, L, S, H, σ, env, As, Dn, a, k => by
    simp only [evS] at k
    obtain ⟨d, hj, k⟩ := get_ok k
    split at k
    · rename_i h
      simp only [Bool.and_eq_true, decide_eq_true_eq] at h
      have c := a.cln j d hj
      obtain ⟨v, hv, o⟩ := a.sta.val j d hj
      refine ⟨v, hv, ?_⟩
      have s2 : Sta K S H σ (env.set j none) (fun l => if l = j then [] else As l) := by
        refine ⟨a.sta.sub, by simp [a.sta.len], fun l d' e => ?_, fun l e => ?_, fun l => ?_, fun l m hlm p hp => ?_, fun l p hp => ?_⟩
        · by_cases hl : l = j
          · subst hl
            rw [List.getElem?_set_self (List.getElem?_eq_some_iff.mp hj).1] at e
            cases e
          · rw [List.getElem?_set_ne (Ne.symm hl)] at e
            simp only [hl, if_false]
            exact a.sta.val l d' e
        · by_cases hl : l = j
          · simp [hl]
          · simp only [hl, if_false]
            exact a.sta.emp l fun d' e' => e d' (by rw [List.getElem?_set_ne (Ne.symm hl)]; exact e')
        · by_cases hl : l = j
          · simp [hl]
          · simp only [hl, if_false]; exact a.sta.nd l
        · by_cases hl : l = j
          · simp [hl] at hp
          · simp only [hl, if_false] at hp
            by_cases hm : m = j
            · simp [hm]
            · simp only [hm, if_false]; exact a.sta.dj l m hlm p hp
        · by_cases hl : l = j
          · simp [hl] at hp
          · simp only [hl, if_false] at hp; exact a.sta.out l p hp
      have a2 : At K Se He L S H σ (env.set j none) (fun l => if l = j then [] else As l) := ⟨s2, a.fut, a.low, fun l p hp => by
        by_cases hl : l = j
        · simp [hl] at hp
        · simp only [hl, if_false] at hp; exact a.new l p hp, fun l x e => by
        by_cases hl : l = j
        · subst hl; rw [List.getElem?_set_self (List.getElem?_eq_some_iff.mp hj).1] at e; cases e
        · rw [List.getElem?_set_ne (Ne.symm hl)] at e; exact a.cln l x e⟩
      refine k _ _ _ _ (a2.store (i := i) (B := As j) (by simpa using h.1) c o ⟨a.sta.nd j, fun p hp => ⟨a.new j p hp, a.sta.out j p hp⟩⟩ fun p hp l hl z => ?_)
      by_cases hlj : l = j
      · simp [hlj] at z
      · simp only [hlj, if_false] at z
        exact a.sta.dj j l (Ne.symm hlj) p hp z
    · exact k.elim
  | .aug i n e, L, S, H, σ, env, As, Dn, a, k => by
    simp only [evS] at k
    obtain ⟨d, hi, k⟩ := get_ok k
    have c := a.cln i d hi
    obtain ⟨v, hv, o⟩ := a.sta.val i d hi
    refine ⟨v, hv, ?_⟩
    refine corE E e a.sta (k.bind a.fut.hp fun y _ k => ?_)
    intro w S1 H1 B f oy r
    have a1 := a.grow f
    obtain ⟨x0, e0, k⟩ := k.ofBind
    obtain ⟨y0, e1, k⟩ := k.ofBind
    obtain rfl : d = .int x0 := by cases d <;> cases e0 <;> rfl
    obtain rfl : y = .int y0 := by cases y <;> cases e1 <;> rfl
    refine ⟨x0, y0, o.1, oy.1, ?_⟩
    exact k _ _ _ _ (a1.store (List.getElem?_eq_some_iff.mp hi).1 rfl ⟨rfl, rfl⟩ .nil (fun _ z => nomatch z))
  | .app i path e, L, S, H, σ, env, As, Dn, a, k => by
    simp only [evS] at k
    cases hp : evP Φ path env with
    | st => rw [hp] at k; exact k.elim
    | ex x => exact absurd hp (evP_ne _ _ _)
    | ok ks =>
      rw [hp] at k
      obtain ⟨x, hx, k⟩ := noEx_k k
      split at k
      · rename_i cx
        obtain ⟨d, t, t', hi, h1, h2, k⟩ := atO_inv k
        exact appC (P := fun _ _ => True) a hp hi h1 h2 cx (fun S' H' Q f kk => evE_own e hx a S' H' Q f kk) k
      · exact k.elim
  | .put i path kx e, L, S, H, σ, env, As, Dn, a, k => by
    simp only [evS] at k
    refine corE E e a.sta (k.bind a.fut.hp fun x _ k => ?_)
    intro xv S1 H1 X f1 ox rx
    have a1 := a.grow f1
    cases hp : evP Φ path env with
    | st => rw [hp] at k; exact k.elim
    | ex x => exact absurd hp (evP_ne _ _ _)
    | ok ks =>
      rw [hp] at k
      obtain ⟨kv, hk, k⟩ := noEx_k k
      split at k
      · rename_i cx
        obtain ⟨d, t, t', hi, h1, h2, k⟩ := atO_inv k
        refine a1.path hi hp h1 fun v u S2 H2 A1 B A2 hv f2 a2 hA c o reb => ?_
        refine corE E0' kx a2.sta ?_
        rw [hk]
        intro y S3 H3 By f3 oy ry
        have a3 := a2.grow f3
        have ox3 := (ox.fut f2).fut f3
        have rx3 : Fresh H S3 X := (rx.fut f2 (Own.there _ _ _ ox)).fut f3 (Own.there _ _ _ (ox.fut f2))
        have xn : ∀ p ∈ X, He p = none ∧ S3 p = none ∧ ∀ j, p ∉ As j := fun p hp => ⟨Same.none a.fut.hp (rx3.new p hp).1, (rx3.new p hp).2, fun j z => fresh_dj a.sta rx3 (j + 1) p hp j (by omega) z⟩
        have ndB : B.Nodup := by
          have := a.sta.nd i
          rw [hA] at this
          exact (List.nodup_append.mp (List.nodup_append.mp this).1).2.1
        obtain ⟨q, ob, C1, C2, C3, rfl, rfl, ce, own, put⟩ := storeC f3.sub c cx h2 (o.fut f3) oy ox3 (fun q hq z => (xn q z).2.2 i (by rw [hA]; simp [hq])) ndB
        have qi : q ∈ As i := by rw [hA]; simp
        exact put _ (a3.write hi hv hA (reb_fut f3 hA (a2.sta.there i) reb) (own (a3.sta.out i q qi)) ce rx3.nd xn k)
      · exact k.elim
  | .augp i path kx n e, L, S, H, σ, env, As, Dn, a, k => by
    simp only [evS] at k
    cases hp : evP Φ path env with
    | st => rw [hp] at k; exact k.elim
    | ex x => exact absurd hp (evP_ne _ _ _)
    | ok ks =>
      rw [hp] at k
      obtain ⟨kv, hk, k⟩ := noEx_k k
      obtain ⟨d, hi, k⟩ := get_ok k
      obtain ⟨o0, hget, k⟩ := k.ofBind
      obtain ⟨t, h1, hst⟩ := Option.bind_eq_some_iff.mp hget
      obtain ⟨y0, he, k⟩ := noEx_k k
      obtain ⟨x1, e1, k⟩ := k.ofBind
      obtain ⟨y1, e2, k⟩ := k.ofBind
      obtain rfl : o0 = .int x1 := by cases o0 <;> cases e1 <;> rfl
      obtain rfl : y0 = .int y1 := by cases y0 <;> cases e2 <;> rfl
      obtain ⟨d', t2, t', hi', h1', h2, k⟩ := atO_inv k
      rw [hi] at hi'
      cases hi'
      rw [h1] at h1'
      cases h1'
      refine a.path hi hp h1 fun v u S2 H2 A1 B A2 hv f2 a2 hA c o reb => ?_
      refine corE E0' kx a2.sta ?_
      rw [hk]
      intro y S3 H3 By f3 oy ry
      have a3 := a2.grow f3
      obtain ⟨w, C1, C, C2, hB, cw, ow, get, _⟩ := stepC f3.sub c hst (o.fut f3) oy
      refine get _ ?_
      refine corE E0' e a3.sta ?_
      rw [he]
      intro z S4 H4 Bz f4 oz rz
      have a4 := a3.grow f4
      refine ⟨x1, y1, ow.1, oz.1, ?_⟩
      have ndB : B.Nodup := by
        have := a.sta.nd i
        rw [hA] at this
        exact (List.nodup_append.mp (List.nodup_append.mp this).1).2.1
      obtain ⟨q, ob, D1, D2, D3, rfl, rfl, ce, own, put⟩ := storeC (X := []) f4.sub c rfl h2 ((o.fut f3).fut f4) (oy.fut f4) (⟨rfl, rfl⟩ : Own K S4 H4 (.int (if n then x1 - y1 else x1 + y1)) _ []) (fun q hq z => nomatch z) ndB
      have qi : q ∈ As i := by rw [hA]; simp
      refine put _ (a4.write hi hv hA (reb_fut (f3.trans f4) hA (a2.sta.there i) reb) (own (a4.sta.out i q qi)) ce List.nodup_nil (fun _ z => nomatch z) k)
  | .expr e, L, S, H, σ, env, As, Dn, a, k => by
    simp only [evS] at k
    refine corE E e a.sta (k.bind a.fut.hp fun d _ k => ?_)
    intro v S1 H1 B f o r
    exact k _ _ _ _ (a.grow f)
  | .ife t x y, L, S, H, σ, env, As, Dn, a, k => by
    simp only [evS] at k
    refine corT E t a.sta (k.bind a.fut.hp fun c _ k => ?_)
    intro S1 H1 f
    cases c with
    | true => exact iff_tt (corSs E x (a.grow f) k)
    | false => exact iff_ff (corSs E y (a.grow f) k)
  | .whl n t b, L, S, H, σ, env, As, Dn, a, k => by
    simp only [evS] at k
    refine ⟨fun m σ H => ∃ S env As, At K Se He L S H σ env As ∧ Kont XR E He (whileN (evT Φ t) (evSs Φ b) m env) (KO K Se He L Dn), ⟨n, S, env, As, a, k⟩, ?_⟩
    rintro m σ H ⟨S, env, As, a, k⟩
    cases m with
    | zero => exact k.elim
    | succ m =>
      simp only [whileN] at k
      refine corT E t a.sta (k.bind a.fut.hp fun c _ k => ?_)
      intro S1 H1 f
      cases c with
      | false => exact iff_ff (k _ _ _ _ (a.grow f))
      | true =>
        refine iff_tt ⟨fun σ H => ∃ S env As, At K Se He L S H σ env As ∧ Kont XR E He (whileN (evT Φ t) (evSs Φ b) m env) (KO K Se He L Dn), fun σ' H' h => ⟨m, Nat.lt_succ_self m, h⟩, ?_⟩
        refine corSs E b (a.grow f) (Kont.bind (show Kont XR E He ((evSs Φ b env).bind _) _ from k) (Same.refl _) fun o _ k => ?_)
        cases o with
        | nx e => exact fun σ S H As a => ⟨S, e, As, a, k⟩
        | ct e => exact fun σ S H As a => ⟨S, e, As, a, k⟩
        | bk e => exact k
        | rt d => exact k
  | .fr it tg b, L, S, H, σ, env, As, Dn, a, k => by
    simp only [evS] at k
    refine corI E it false a.sta (k.bind a.fut.hp fun ds _ k => ?_)
    intro J S1 H1 f J1 z0
    have z : isZs ds = true := z0.resolve_left Bool.false_ne_true
    have a1 := a.grow f
    have low1 : Same L S1 := a1.low
    refine ⟨fun i m σ H => m = ds.length - i ∧ i ≤ ds.length ∧ ∃ S env As, At K Se He S1 S H σ env As ∧ Kont XR E He (forL (fun d env => (setTg tg d env).bind fun env' => evSs Φ b env') (ds.drop i) env) (KO K Se He L Dn),
      ⟨ds.length, by simp, Nat.zero_le _, S1, env, As, ⟨a1.sta, a1.fut, Same.refl _, a1.new, a1.cln⟩, by simpa using k⟩, ?_⟩
    rintro i m σ H ⟨rfl, hi, S, env, As, a, k⟩
    have pH : stays false S1 H1 H := ⟨fun x o e => a.sta.sub x o (a.low x o e), fun h => nomatch h⟩
    by_cases hlt : i < ds.length
    · refine .inr ⟨J1.go i H pH hlt, fun σ H => i + 1 ≤ ds.length ∧ ∃ S env As, At K Se He S1 S H σ env As ∧ Kont XR E He (forL (fun d env => (setTg tg d env).bind fun env' => evSs Φ b env') (ds.drop (i + 1)) env) (KO K Se He L Dn),
        fun σ' H' h => ⟨ds.length - (i + 1), by omega, rfl, h⟩, fun x H' y => ?_⟩
      have ei : ds[i]? = some ds[i] := List.getElem?_eq_getElem hlt
      obtain ⟨rfl, ox⟩ := J1.yld i H x H' _ pH y ei
      rw [List.drop_eq_getElem_cons hlt] at k
      simp only [forL] at k
      have ox2 : Own K S H' ds[i] x [] := Own.keep a.low _ _ _ (.inr (Same.refl _)) (fun _ z => nomatch z) ox
      cases h : setTg tg ds[i] env with
      | st => rw [h] at k; exact k.elim
      | ex x => exact absurd h setTg_ne
      | ok env' =>
        rw [h] at k
        refine setTgC a.sta h ox2 fun σ' As' s' l hk hA => ?_
        refine corSs E b (⟨s', a.fut, a.low, fun j p hp => a.new j p (hA j p hp), fun j x e => (setTg_z h (isZs_at ds i _ z ei) j x e).elim (a.cln j x) (isZ_clean x)⟩ : At K Se He S1 S H' σ' env' As') (Kont.bind (show Kont XR E He ((evSs Φ b env').bind _) _ from k) (Same.refl _) fun o _ k => ?_)
        cases o with
        | nx e => exact fun σ S H As a => ⟨hlt, S, e, As, a, k⟩
        | ct e => exact fun σ S H As a => ⟨hlt, S, e, As, a, k⟩
        | bk e => exact KN.raise k low1
        | rt d => exact k
    · have e : i = ds.length := by omega
      subst e
      refine .inl ⟨J1.stop _ H pH (Nat.le_refl _), ?_⟩
      rw [List.drop_length] at k
      exact k _ _ _ _ (a.lower low1)
  | .ret e, L, S, H, σ, env, As, Dn, a, k => by
    simp only [evS] at k
    exact corE E e a.sta (k.bind a.fut.hp fun d _ k => KE.fut k a.fut)
  | .retn, L, S, H, σ, env, As, Dn, a, k => KE.non k a.fut
  | .retmv i, L, S, H, σ, env, As, Dn, a, k => by
    simp only [evS] at k
    obtain ⟨d, hi, k⟩ := get_ok k
    have c := a.cln i d hi
    obtain ⟨v, hv, o⟩ := a.sta.val i d hi
    exact ⟨v, hv, k v S H (As i) a.fut o ⟨a.sta.nd i, fun p hp => ⟨a.new i p hp, a.sta.out i p hp⟩⟩⟩
  | .brk, L, S, H, σ, env, As, Dn, a, k => k _ _ _ _ a
  | .cont, L, S, H, σ, env, As, Dn, a, k => k _ _ _ _ a
  | .pass, L, S, H, σ, env, As, Dn, a, k => k _ _ _ _ a
  | .frz i, L, S, H, σ, env, As, Dn, a, k => by
    simp only [evS] at k
    obtain ⟨d, hi, k⟩ := get_ok k
    have c := a.cln i d hi
    obtain ⟨v, hv, o⟩ := a.sta.val i d hi
    have r : Fresh He S (As i) := ⟨a.sta.nd i, fun p hp => ⟨a.new i p hp, a.sta.out i p hp⟩⟩
    obtain ⟨g, s⟩ := a.fut.more r
    refine k σ (more S H (As i)) H (fun j => if j = i then [] else As j) ⟨⟨g.sub, by simp [a.sta.len], fun j d' e => ?_, fun j e => ?_, fun j => ?_, fun j l hjl p hp => ?_, fun j p hp => ?_⟩, g, a.low.trans s, fun j p hp => ?_, fun j x e => ?_⟩
    · by_cases h : j = i
      · subst h
        rw [List.getElem?_set_self (List.getElem?_eq_some_iff.mp hi).1] at e
        cases e
        exact ⟨v, hv, by simpa using Own.freeze s d v _ c (fun p hp => more_in hp) o⟩
      · rw [List.getElem?_set_ne (Ne.symm h)] at e
        obtain ⟨v', h1, h2⟩ := a.sta.val j d' e
        exact ⟨v', h1, by simpa [h] using Own.keep s _ _ _ (.inr (Same.refl _)) (fun _ _ => rfl) h2⟩
    · by_cases h : j = i
      · simp [h]
      · simp only [h, if_false]
        exact a.sta.emp j fun d' e' => e d' (by rw [List.getElem?_set_ne (Ne.symm h)]; exact e')
    · by_cases h : j = i
      · simp [h]
      · simp only [h, if_false]; exact a.sta.nd j
    · by_cases h : j = i
      · simp [h] at hp
      · simp only [h, if_false] at hp
        by_cases h2 : l = i
        · simp [h2]
        · simp only [h2, if_false]; exact a.sta.dj j l hjl p hp
    · by_cases h : j = i
      · simp [h] at hp
      · simp only [h, if_false] at hp
        rw [more_out (fun z => a.sta.dj j i h p hp z)]
        exact a.sta.out j p hp
    · by_cases h : j = i
      · simp [h] at hp
      · simp only [h, if_false] at hp; exact a.new j p hp
    · by_cases h : j = i
      · subst h
        rw [List.getElem?_set_self (List.getElem?_eq_some_iff.mp hi).1] at e
        cases e
        exact isZ_clean _ (isZ_zz d)
      · rw [List.getElem?_set_ne (Ne.symm h)] at e
        exact a.cln j x e
  | .apop i j kx, L, S, H, σ, env, As, Dn, a, k => by
    simp only [evS] at k
    obtain ⟨qv, hq, k⟩ := noEx_k k
    obtain ⟨n, e1, k⟩ := k.ofBind
    obtain rfl : qv = .int n := by cases qv <;> cases e1 <;> rfl
    obtain ⟨d, hj, k⟩ := get_ok k
    obtain ⟨e, hi, k⟩ := get_ok k
    obtain ⟨r, hr, k⟩ := k.ofBind
    obtain ⟨e', he, k⟩ := k.ofBind
    split at k
    rotate_left
    · exact k.elim
    rename_i hij
    simp only [decide_eq_true_eq] at hij
    obtain ⟨ds, m, x, rfl, hm, hx, hz1, hz2, rfl⟩ := popO_inv hr
    have hz : isZ x = true ∧ _ := ⟨hz1, hz2⟩
    obtain ⟨es, rfl, hes, rfl⟩ := appO_inv he
    have cd := a.cln j _ hj
    have ce := a.cln i _ hi
    simp only [clean, Bool.and_eq_true] at cd ce
    obtain ⟨vj, hvj, oj⟩ := a.sta.val j _ hj
    obtain ⟨vi, hvi, oi⟩ := a.sta.val i _ hi
    obtain ⟨qi, us, Bi, rfl, hAi, hqi, owi⟩ := oi
    refine ⟨_, hvi, .inl ⟨rfl, us, .inl (.inl hqi)⟩, ?_⟩
    obtain ⟨qj, vs, Bj, rfl, hAj, hqj, owj⟩ := oj
    refine ⟨_, hvj, .inl ⟨rfl, vs, .inl (.inl hqj)⟩, ?_⟩
    refine corE E0' kx a.sta ?_
    rw [hq]
    intro y S1 H1 By f1 oy ry
    have a1 := a.grow f1
    obtain ⟨w, hw, ox, ow2⟩ := Owns.erase ds vs Bj m x (owj.fut f1) hx hz.1
    have l := Owns.length _ _ _ owj
    refine ⟨qj, vs, n, m, w, rfl, by rw [oy.1], f1.hp _ _ hqj, hz.2.1, hz.2.2, by rw [← l]; exact (ixN_seq hm).1, hw, ?_⟩
    have a2 := a1.rewrite hj hvj hAj ow2 (cleans_erase ds m cd.2)
    have hne : qi ≠ qj := fun z => a.sta.dj i j hij qi (by rw [hAi]; simp) (by rw [hAj, z]; simp)
    have hqi2 : upd H1 qj (.lst (vs.eraseIdx m)) qi = some (.lst us) := by rw [upd_ne hne]; exact f1.hp _ _ hqi
    have li := Owns.length _ _ _ owi
    refine ⟨qi, us, w, rfl, rfl, hqi2, by omega, ?_⟩
    have hi2 : (env.set j (some (.lst .o (ds.eraseIdx m))))[i]? = some (some (.lst .o es)) := by rw [List.getElem?_set_ne (Ne.symm hij)]; exact hi
    obtain ⟨v3, hv3, o3⟩ := a2.sta.val i _ hi2
    rw [hvi] at hv3
    cases hv3
    obtain ⟨q3, us3, B3, e3, hA3, hq3, ow3⟩ := o3
    cases e3
    rw [hqi2] at hq3
    cases hq3
    have ox3 : Own K S1 (upd H1 qj (.lst (vs.eraseIdx m))) x w [] := (Own.ofZ x w [] hz.1 ox).2
    refine k _ _ _ _ (a2.rewrite hi2 hvi hA3 (by simpa using Owns.append _ _ _ _ _ _ ow3 (Owns.one ox3)) (cleans_snoc _ _ ce.2 (isZ_clean x hz.1)))
  | .each i g ex, L, S, H, σ, env, As, Dn, a, k => by
    simp only [evS] at k
    obtain ⟨d, hi, k⟩ := get_ok k
    obtain ⟨x, hx, k⟩ := noEx_k k
    obtain ⟨d', hd, k⟩ := k.ofBind
    split at k
    rotate_left
    · exact k.elim
    rename_i hg
    simp only [Bool.and_eq_true, decide_eq_true_eq] at hg
    obtain ⟨⟨zx, hgl⟩, hgi⟩ := hg
    obtain ⟨ds, rfl, hall, rfl⟩ := eachO_inv hd
    have cd := a.cln i _ hi
    simp only [clean, Bool.and_eq_true] at cd
    have hil : i < env.length := (List.getElem?_eq_some_iff.mp hi).1
    obtain ⟨v, hv, o⟩ := a.sta.val i _ hi
    obtain ⟨q0, vs, B0, rfl, hA0, hq0, ow0⟩ := o
    have lv := Owns.length _ _ _ ow0
    refine ⟨_, hv, q0, rfl, .inl ⟨vs, .inl (.inl hq0), ?_⟩⟩
    have nog : ∀ (e2 : Env) (d : D), (e2.set g none)[g]? ≠ some (some d) := fun e2 d h => by
      by_cases h2 : g < e2.length
      · rw [List.getElem?_set_self h2] at h; cases h
      · rw [List.getElem?_eq_none (by simp; omega)] at h; cases h
    refine ⟨fun n m σ' H' => m = ds.length - n ∧ n ≤ ds.length ∧ σ'[i]? = some (some (.ref q0)) ∧ H' q0 = some (.lst vs) ∧ ∃ S' As', At K Se He L S' H' σ' ((env.set i (some (.lst .o (eachN x n ds)))).set g none) As', ⟨ds.length, by simp, Nat.zero_le _, hv, hq0, S, fun l => if l = g then [] else As l, ?_⟩, ?_⟩
    · have a0 := a.drop g
      have e0 : env.set i (some (.lst .o (eachN x 0 ds))) = env := by
        have : eachN x 0 ds = ds := by simp [eachN]
        rw [this]
        exact List.ext_getElem? fun j => by
          by_cases h : j = i
          · subst h; rw [List.getElem?_set_self hil, hi]
          · rw [List.getElem?_set_ne (Ne.symm h)]
      rw [e0]
      exact a0
    rintro n m σ' H' ⟨rfl, hn, hv', hq', S', As', a'⟩
    have hq2 : SqL K H' q0 vs := .inl (.inl hq')
    have hi' : ((env.set i (some (.lst .o (eachN x n ds)))).set g none)[i]? = some (some (.lst .o (eachN x n ds))) := by
      rw [List.getElem?_set_ne hgi, List.getElem?_set_self hil]
    by_cases hlt : n < ds.length
    · have hlv : n < vs.length := by omega
      refine .inr ⟨⟨vs, vs[n], hq2, List.getElem?_eq_getElem hlv⟩, fun σ2 H2 => n + 1 ≤ ds.length ∧ σ2[i]? = some (some (.ref q0)) ∧ H2 q0 = some (.lst vs) ∧ ∃ S' As', At K Se He L S' H2 σ2 ((env.set i (some (.lst .o (eachN x (n + 1) ds)))).set g none) As', fun σ2 H2 h => ⟨ds.length - (n + 1), by omega, rfl, h⟩, fun y H2 hy => ?_⟩
      obtain ⟨rfl, hy⟩ := hy
      have ey := hy vs hq2
      have a2 := a'.over (j := g) y (nog _)
      have hv2 : (σ'.set g (some y))[i]? = some (some (.ref q0)) := by rw [List.getElem?_set_ne hgi]; exact hv'
      obtain ⟨v3, hv3, o3⟩ := a2.sta.val i _ hi'
      rw [hv2] at hv3
      cases hv3
      obtain ⟨q3, vs3, B3, e3, hA3, hq3, ow3⟩ := o3
      cases e3
      rw [hq'] at hq3
      cases hq3
      have hd1 : (appO ds[n] x).isSome = true := List.all_eq_true.mp hall _ (List.getElem_mem hlt)
      obtain ⟨es, hes, hel⟩ : ∃ es, ds[n] = .lst .o es ∧ es.length < sizeLine := by
        generalize ds[n] = t at hd1
        unfold appO at hd1
        split at hd1
        · split at hd1
          · exact ⟨_, rfl, by assumption⟩
          · cases hd1
        · cases hd1
      have nd3 := a2.sta.nd i
      rw [hA3, List.nodup_cons] at nd3
      have ca : cleans (eachN x n ds) = true := cleans_eachN (isZ_clean x zx) cd.2
      have gx : (eachN x n ds)[n]? = some (.lst .o es) := by rw [eachN_get hlt, hes]
      obtain ⟨q, us, B1, B2, B4, g1, g2, g3, g4, g5, _⟩ := Owns.item _ _ _ n es ow3 ca gx
      rw [ey] at g1
      cases g1
      have hgσ : g < σ'.length := by rw [a'.sta.len]; simpa using hgl
      refine ⟨_, List.getElem?_set_self hgσ, .inl ⟨rfl, us, .inl (.inl g2)⟩, ?_⟩
      have sd := (a2.drop i).sta
      have ed : (((env.set i (some (.lst .o (eachN x n ds)))).set g none).set i none) = (env.set i none).set g none := by
        refine List.ext_getElem? fun j => ?_
        by_cases h1 : j = i
        · subst h1
          rw [List.getElem?_set_self (by simpa using hil), List.getElem?_set_ne hgi, List.getElem?_set_self hil]
        · rw [List.getElem?_set_ne (Ne.symm h1)]
          by_cases h2 : j = g
          · subst h2
            rw [List.getElem?_set_self (by simpa using hgl), List.getElem?_set_self (by simpa using hgl)]
          · rw [List.getElem?_set_ne (Ne.symm h2), List.getElem?_set_ne (Ne.symm h2), List.getElem?_set_ne (Ne.symm h1), List.getElem?_set_ne (Ne.symm h1)]
      rw [ed] at sd
      refine corE E0' ex sd ?_
      rw [hx]
      intro w S3 H3 X f3 ox rx
      obtain ⟨rfl, ox⟩ := Own.ofZ (H' := H3) x w X zx ox
      have a3 := a2.grow f3
      have lg := Owns.length _ _ _ g4
      refine ⟨q, us, w, rfl, rfl, f3.hp _ _ g2, by omega, ?_⟩
      obtain ⟨q', us', C1, C2, C4, k1, k2, k3, k4, k5, k6⟩ := Owns.item _ _ _ n es (ow3.fut f3) ca gx
      rw [ey] at k1
      cases k1
      rw [f3.hp _ _ g2] at k2
      cases k2
      have qne : q ≠ q0 := fun z => nd3.1 (by rw [← z, g3]; simp)
      have es2 : (eachN x n ds).set n (.lst .o (es ++ [x])) = eachN x (n + 1) ds := by
        rw [← eachN_set hlt, hes]
        have : appO (.lst .o es) x = some (.lst .o (es ++ [x])) := by unfold appO; simp [hel]
        rw [this]; rfl
      have nd4 : ((q0 :: C1) ++ (q :: C2) ++ C4).Nodup := by
        have := a2.sta.nd i
        rw [hA3, k3] at this
        simpa using this
      have qC : q ∉ C2 := by
        simp only [List.append_assoc, List.nodup_append, List.cons_append, List.nodup_cons, List.mem_append, List.mem_cons] at nd4
        exact fun z => nd4.2.2.1.1 (.inl z)
      have ixn : ixN (eachN x n ds).length (n : Int) = some n := by
        have hll : (eachN x n ds).length = ds.length := by simp [eachN]; omega
        unfold ixN
        rw [hll, if_pos (by omega), if_pos (by omega)]; rfl
      have so : ∀ e2 : D, setO (.lst .o (eachN x n ds)) [.int n] e2 = .lst .o ((eachN x n ds).set n e2) := fun e2 => by
        show putO (.lst .o (eachN x n ds)) (.int n) e2 = _
        unfold putO
        simp only [ixn]
      have cs : cleans (es ++ [x]) = true := cleans_snoc _ _ g5 (isZ_clean x zx)
      have ch := a3.change (path := [.int n]) (A1 := q0 :: C1) (A2 := C4) (B := C2) (B' := C2) (u := .ref q) (q := q) (e' := .lst .o (es ++ [x])) (o := .lst (us ++ [w])) hi' hv2 (by rw [hA3, k3]; simp)
        (fun S2 H2 e2 B2 s2 kk o2 => by
          rw [so]
          refine ⟨q0, vs, C1 ++ B2 ++ C4, rfl, by simp, (kk q0 (by simp)).trans (f3.hp _ _ hq'), k6 S2 H2 e2 B2 s2 (fun p hp => kk p (by simp at hp ⊢; rcases hp with hp | hp <;> simp [hp])) o2⟩)
        ⟨q, us ++ [w], C2, rfl, rfl, upd_same, by
          have := Owns.append es us C2 [x] [w] [] (Owns.keep (Same.refl S3) (H' := upd H3 q (.lst (us ++ [w]))) _ _ _ (.inl g5) (fun p hp => upd_ne (by rintro rfl; exact qC hp)) k4) (Owns.one (Own.ofZ x w [] zx ox).2)
          simpa using this⟩
        (by rw [so]; simp only [clean, Bool.and_eq_true]; exact ⟨by decide, cleans_set _ _ _ ca (by simp [clean, cs])⟩) nd4 (fun p hp hb => absurd hp hb)
      rw [so, es2] at ch
      have ee : ((env.set i (some (.lst .o (eachN x n ds)))).set g none).set i (some (.lst .o (eachN x (n + 1) ds))) = (env.set i (some (.lst .o (eachN x (n + 1) ds)))).set g none := by
        refine List.ext_getElem? fun j => ?_
        by_cases h1 : j = i
        · subst h1
          rw [List.getElem?_set_self (by simpa using hil), List.getElem?_set_ne hgi, List.getElem?_set_self hil]
        · rw [List.getElem?_set_ne (Ne.symm h1)]
          by_cases h2 : j = g
          · subst h2
            rw [List.getElem?_set_self (by simpa using hgl), List.getElem?_set_self (by simpa using hgl)]
          · rw [List.getElem?_set_ne (Ne.symm h2), List.getElem?_set_ne (Ne.symm h2), List.getElem?_set_ne (Ne.symm h1), List.getElem?_set_ne (Ne.symm h1)]
      rw [ee] at ch
      exact ⟨hlt, hv2, by rw [upd_ne (Ne.symm qne)]; exact f3.hp _ _ hq', S3, _, ch⟩
    · have e : n = ds.length := by omega
      subst e
      refine .inl ⟨⟨vs, hq2, by omega⟩, ?_⟩
      have en : eachN x ds.length ds = ds.map fun t => (appO t x).getD t := by simp [eachN]
      rw [en] at a'
      exact k _ _ _ _ a'
theorem corSs (E : XK) : ∀ (ss : Ss) {L S H : Hp} {σ : St} {env : Env} {As : Nat → List Addr} {Dn : Ends}, At K Se He L S H σ env As → Kont XR E He (evSs Φ ss env) (KO K Se He L Dn) → tSs K XR Φ E ss Dn σ H
  | .nil, L, S, H, σ, env, As, Dn, a, k => k _ _ _ _ a
  | .cons s ss, L, S, H, σ, env, As, Dn, a, k => by
    simp only [evSs, R.nx] at k
    refine corS E s a (k.bind (Same.refl _) fun o _ k => ?_)
    cases o with
    | nx e => exact fun σ S H As a => corSs E ss a k
    | rt d => exact k
    | bk e => exact k
    | ct e => exact k
end
end EV
namespace EV
open PySem PySem.Spec PyProof.Rows L2
variable {X : Cx}
/-! ### the operations' rules -/
theorem opBin (op : BinK) : ∀ o : Operator, (match op with | .add => o = .Add | .sub => o = .Sub | .mul => o = .Mult | .fdiv => o = .FloorDiv | .mod => o = .Mod | .pow => o = .Pow | .xor => o = .BitXor) → OpR X (binaryOp o) (rBin X.K op) := by
  intro o h
  cases op <;> subst h
  · exact OpR.or op_add (OpR.or op_add_str op_cat)
  · exact op_sub
  · exact OpR.or op_mul op_rep
  · exact op_fdiv
  · exact op_mod
  · exact op_pow
  · exact op_xor
theorem op_dIn (hu : X.A.units + 1 < cLine) : OpR X (compareOp .In) (rDIn false) := by
  intro pins s σ H x y v u Q I rx ry h
  obtain ⟨a, o, rfl, g, q⟩ := h
  cases ry
  exact d_in hu I g rx fun s2 I2 => ⟨.bl o.isSome, H, I2, rfl, q⟩
theorem op_dNotIn (hu : X.A.units + 1 < cLine) : OpR X (compareOp .NotIn) (rDIn true) := by
  intro pins s σ H x y v u Q I rx ry h
  obtain ⟨a, o, rfl, g, q⟩ := h
  cases ry
  exact d_notIn hu I g rx fun s2 I2 => ⟨.bl (!o.isSome), H, I2, rfl, q⟩
theorem opCmp (hu : X.A.units + 65 < cLine) (op : CmpK) : ∀ o : CmpOp, (match op with | .eq => o = .Eq | .ne => o = .NotEq | .lt => o = .Lt | .le => o = .LtE | .gt => o = .Gt | .ge => o = .GtE | .isin => o = .In | .notin => o = .NotIn) → OpR X (compareOp o) (rCmp X.K op) := by
  intro o h
  cases op <;> subst h
  · exact op_eqD (by omega)
  · exact op_neD (by omega)
  · exact op_lt
  · exact op_le
  · exact op_gt
  · exact op_ge
  · exact OpR.or (op_inD hu) (op_dIn (by omega))
  · exact OpR.or (op_notInD hu) (op_dNotIn (by omega))
theorem ixA (hu : X.A.units + 1 < cLine) : IxR X (rIxA X.K) := by
  refine ix_list.or (ix_tup.or ?_)
  intro ev es pins s τ G x y vx vy Q I rx ry q hs
  obtain ⟨a, w, rfl, g, q⟩ := q
  cases rx
  exact PyProof.Rows.tail_any (dict_typeIs I g) PySem.F.slot_dict_getitem.lookup (d_getItem hu I g ry fun w' s3 I3 rw' => ⟨w, G, I3, rw', q⟩) hs
theorem slA : SlR X (rSlA X.K) := sl_list.or sl_tup
theorem getA (hu : X.A.units + 1 < cLine) : PGet X (fun o i H Q => rIxA X.K o i H Q) := by
  intro pins s τ G x y vx vy Q I rx ry q
  rcases q with q | q | q
  · obtain ⟨p, xs, i, z, rfl, rfl, hq, he, q⟩ := q
    cases rx
    obtain ⟨tk, rfl⟩ := ry
    obtain ⟨its, r, pl, _⟩ := I.list hq
    obtain ⟨j, k1, k2, k3, k4, k5⟩ := atI_get he
    obtain ⟨w, ew, rw2⟩ := r.get k2
    have ll := r.length
    have big := line63
    have done : EP X pins τ Q w s := ⟨z, G, I, rw2, q⟩
    have li : s.heap.IsList p its.toArray := pl.isList
    have small := (by assumption : xs.length ≤ sizeLine)
    by_cases pos : 0 ≤ i
    · have ej : i.toNat = j := by
        have e := k1
        rw [seqIndex_of pos k5] at e
        exact Option.some.inj e
      exact wpAny_getItem_list li pos (by omega) (by rw [ej]; simpa using ew) done
    · have ej : (i + (its.toArray.size : Int)).toNat = j := by
        have e := k1
        rw [seqIndex_neg (by omega) k4] at e
        rw [List.size_toArray, ← ll]
        exact Option.some.inj e
      exact wpAny_getItem_list_neg li (by omega) (by rw [List.size_toArray]; omega) (by omega) (by rw [ej]; simpa using ew) done
  · obtain ⟨p, xs, i, z, rfl, rfl, hq, he, q⟩ := q
    cases rx
    obtain ⟨tk, rfl⟩ := ry
    obtain ⟨its, r, pl, _⟩ := I.tuple hq
    obtain ⟨j, k1, k2, k3, k4, k5⟩ := atI_get he
    obtain ⟨w, ew, rw2⟩ := r.get k2
    have ll := r.length
    have big := line63
    have small := (by assumption : xs.length ≤ sizeLine)
    exact getItem_tuple (j := j) pl (by omega) (by omega) (by rw [List.size_toArray, ← ll]; exact k1) (by simpa using ew) ⟨z, G, I, rw2, q⟩
  · obtain ⟨a, w, rfl, g, q⟩ := q
    cases rx
    exact d_getItem hu I g ry fun w' s3 I3 rw' => ⟨w, G, I3, rw', q⟩
theorem putA (hu : X.A.units + 1 < cLine) : PSet X rPut := by
  intro pins s σ H o i v ov iv u Q I r1 r2 r3 h
  rcases h with h | ⟨a, H4, rfl, g, q⟩
  · exact set_list pins s σ H o i v ov iv u Q I r1 r2 r3 h
  · cases r1
    exact d_setItem hu I g r2 r3 fun s2 I2 => ⟨H4, I2, q⟩
/-- a loop over a list or a tuple -/
theorem pi_seq {tg l : Expr} {tl : TE} (hl : PE X l tl) : PI X tg l (iSeq X.K tl) := by
  refine ⟨fun pins s τ G R I hw => ?_⟩
  refine thn (hl.run pins s τ G _ I hw) fun v t ⟨x, G1, J, rx, q1⟩ => ?_
  obtain ⟨a, rfl, q⟩ := q1
  cases rx
  have free : ∀ b ∈ [t.heap.objs.size], FpOk X pins G1 b := fun b hb => by
    obtain rfl : b = t.heap.objs.size := List.mem_singleton.mp hb
    exact J.fpOk (Nat.le_refl _) (J.hok.fresh (Nat.le_refl _))
  rcases q with ⟨xs, hq, q⟩ | ⟨xs, hq, q⟩
  · obtain ⟨its, _, p, _⟩ := J.list hq
    refine wpAny_pyIter_list p.isList ⟨t.heap.objs.size, [t.heap.objs.size], _, _, G1, rfl, ?_, turn_list a _, ?_, free, q⟩
    · exact J.kept (t' := t.toks) fun _ _ => Heap.get?_push_of_some _
    · exact ⟨_, Heap.get?_push_size _ rfl, rfl, rfl⟩
  · obtain ⟨its, _, p, _⟩ := J.tuple hq
    refine wpAny_pyIter_tuple (show t.heap.IsTuple a its.toArray from p) ⟨t.heap.objs.size, [t.heap.objs.size], _, _, G1, rfl, ?_, turn_tuple a _, ?_, free, q⟩
    · exact J.kept (t' := t.toks) fun _ _ => Heap.get?_push_of_some _
    · exact ⟨_, Heap.get?_push_size _ rfl, rfl, rfl⟩
/-- name = {.. for ..} on one line, the name a local -/
theorem ps_setDc {i : Nat} {y : Str} {yp : Pos} {ek ev tgt src : Expr} {sco : Scope} {mine : List (Str × Nat)} {cp sp : Pos} {wi : TI} {g : TG} {tk tv : TE} (calm : X.calm = true) (nd : X.N.Nodup) (hy : X.N[i]? = some y)
    (loc : X.env.scope.names.lookup y = some .local) (sw : swapsWith (.DictComp ek ev [⟨tgt, src, [], 0⟩] sco cp) (some (.Name y yp)) sp.line X.env = pure true)
    (hi : PI X tgt src wi) (ok : BlkOk X.N X.env.scope sco mine) (hg : ∀ s H C cl fp, PG (X.blk s H sco (compEnvC sco cl C X.env) fp) tgt g)
    (hk : ∀ s H C cl fp, PE (X.blk s H sco (compEnvC sco cl C X.env) fp) ek tk) (hv : ∀ s H C cl fp, PE (X.blk s H sco (compEnvC sco cl C X.env) fp) ev tv)
    (fi : ∀ x, foldedSetIterable src X.env x = pure x) : PS X (.Assign [.Name y yp] (.DictComp ek ev [⟨tgt, src, [], 0⟩] sco cp) sp) (tAsg (tDc wi g tYes tk tv (mine.map (·.2))) (gName i)) := by
  refine ⟨fun pins s τ G Dn I hw => ?_⟩
  rw [exec_Assign_Name_used _ _ _ _ sw]
  refine wpAny_bind (wpAny_standAt (wpAny_bind (wpAny_bind (thn (dc_core (Qf := fun _ s' => SP X pins Dn .next s') (Q := fun x H1 => gName i x τ H1 Dn.nx)
    (use := some (assign (.Name y yp) X.env)) calm nd I hi ok hg (fun _ _ _ _ _ => pts_nil) hk hv fi hw fun L C s' m H' J q hn f => ?_) fun _ s' z => wpAny_pure (wpAny_pure z)))))
  obtain ⟨f0, f1, f2, f3, f4, f5⟩ := f
  show wpAny _ _ (assign (.Name y yp) X.env (.ref L)) _ _ _
  refine wpAny_assign_Name (store_ok2 (v := V.ref L) J nd hy (.inl loc) rfl (fun s2 J2 ⟨a, sb, ha⟩ => ?_) (.inr loc))
  have apart : C ≠ a := by
    rcases ha with z | z
    · exact fun e => f1 (e.trans z)
    · exact fun e => f4 y a z e.symm
  exact ⟨m, hn.sameBut sb apart, fun h3 sb3 => ⟨_, H', J2.turned (t' := s2.toks) (fun b o hb e => (sb3.2 b hb).trans e) f0 f1 f3 f4 f5, q⟩⟩
end EV
namespace EV
open PySem PySem.Spec PyProof.Rows L2
/-! ### does the skeleton say what stands in the text? -/
def binIs : BinK → Operator → Bool
  | .add, .Add => true | .sub, .Sub => true | .mul, .Mult => true | .fdiv, .FloorDiv => true | .mod, .Mod => true | .pow, .Pow => true | .xor, .BitXor => true
  | _, _ => false
def cmpIs : CmpK → CmpOp → Bool
  | .eq, .Eq => true | .ne, .NotEq => true | .lt, .Lt => true | .le, .LtE => true | .gt, .Gt => true | .ge, .GtE => true | .isin, .In => true | .notin, .NotIn => true
  | _, _ => false
def bkName : BK → Str
  | .len => "len" | .abs => "abs" | .int => "int" | .list => "list" | .tuple => "tuple" | .sorted => "sorted"
def isSet : Expr → Bool
  | .Set _ _ _ => true | _ => false
def isStar : Expr → Bool
  | .Starred _ _ => true | _ => false
def plainTest : Expr → Bool
  | .UnaryOp .Not _ _ => false | .BoolOp _ _ _ => false | .IfExp _ _ _ _ => false | .Compare _ _ _ _ => false
  | _ => true
def isComp : Expr → Bool
  | .ListComp _ _ _ _ => true | .SetComp _ _ _ _ => true | .DictComp _ _ _ _ _ => true | _ => false
def visB (sc : Scope) (x : Str) : Bool := decide (sc.names.lookup x = some .local) || decide (sc.names.lookup x = some .cell) || decide (sc.names.lookup x = some .free)
def glB (sc : Scope) (x : Str) : Bool := decide (sc.names.lookup x = some .globalImplicit)
def nmB (x : Str) : Bool := !(x == ("__debug__" : Str)) && !(x == ("__classdict__" : Str))
def stB (blk : Bool) (sc : Scope) (x : Str) : Bool := decide (sc.names.lookup x = some .local) || (!blk && decide (sc.names.lookup x = some .cell))
def tyB (t : String) (x : Str) : Bool := (decide (t = "int") && decide (x = ("int" : Str))) || (decide (t = "bool") && decide (x = ("bool" : Str))) || (decide (t = "list") && decide (x = ("list" : Str))) || (decide (t = "tuple") && decide (x = ("tuple" : Str))) || (decide (t = "str") && decide (x = ("str" : Str)))
section
variable (N : List Str) (fnm : Nat → Option Str)
def slotB (sc : Scope) (i : Nat) (x : Str) : Bool := decide (N[i]? = some x) && visB sc x && nmB x
def tgN (blk : Bool) (sc : Scope) (i : Nat) : Expr → Bool
  | .Name x _ => decide (N[i]? = some x) && stB blk sc x
  | _ => false
def tgNs (blk : Bool) (sc : Scope) : List Nat → List Expr → Bool
  | [], [] => true
  | i :: is, e :: es => tgN N blk sc i e && tgNs blk sc is es
  | _, _ => false
def chTg (blk : Bool) (sc : Scope) : Tg → Expr → Bool
  | .name i, e => tgN N blk sc i e
  | .tup is, .Tuple es _ _ => tgNs N blk sc is es
  | _, _ => false
def ownN (own : List Nat) : List (Str × Nat) := own.map fun i => (N.getD i "", i)
mutual
def chE : C → Scope → Expr → Bool
  | .slot i, sc, .Name x _ => slotB N sc i x
  | .non, _, .Constant .none _ _ => true
  | .bl b, _, .Constant (.bool c) _ _ => decide (b = c)
  | .int i, _, .Constant (.int j) _ _ => decide (i = j)
  | .str s, _, .Constant (.str t) _ _ => decide (s = t)
  | .bin op a b, sc, .BinOp l o r _ => binIs op o && chE a sc l && chE b sc r
  | .neg a, sc, .UnaryOp .USub e _ => chE a sc e
  | .cmp op a b, sc, .Compare l [o] [r] _ => cmpIs op o && chE a sc l && chE b sc r && !isSet r
  | .chain op op' a b c, sc, .Compare l [o, o'] [m, r] _ => cmpIs op o && cmpIs op' o' && chE a sc l && chE b sc m && chE c sc r && !isSet m && !isSet r
  | .isN false a, sc, .Compare l [.Is] [.Constant .none _ _] _ => chE a sc l
  | .isN true a, sc, .Compare l [.IsNot] [.Constant .none _ _] _ => chE a sc l
  | .and (.cons c cs), sc, .BoolOp .And (e :: es) _ => chE c sc e && chL cs sc es
  | .or (.cons c cs), sc, .BoolOp .Or (e :: es) _ => chE c sc e && chL cs sc es
  | .not a, sc, .UnaryOp .Not e _ => chE a sc e
  | .ite c a b, sc, .IfExp t x y _ => chT c sc t && chE a sc x && chE b sc y
  | .tup es, sc, .Tuple xs _ _ => chL es sc xs
  | .lst es, sc, .List xs _ => chL es sc xs
  | .dic, _, .Dict [] [] _ => true
  | .dit, _, .Dict [] [] _ => true
  | .dic1 a b, sc, .Dict ks vs _ => (match ks, vs with
    | [some x], [y] => chE a sc x && chE b sc y
    | _, _ => false)
  | .ix a b, sc, .Subscript x y _ => chE a sc x && chE b sc y
  | .cut a lo hi, sc, .Subscript x (.Slice l h none _) _ => chE a sc x && chO lo sc l && chO hi sc h
  | .blt b a, sc, .Call (.Name x _) [e] [] _ => decide (x = bkName b) && glB sc x && chE a sc e
  | .isi ty a, sc, .Call (.Name x _) [e, .Name t _] [] _ => decide (x = ("isinstance" : Str)) && glB sc x && tyB ty t && glB sc t && chE a sc e
  | .call f es, sc, .Call (.Name x _) xs [] _ => decide (fnm f = some x) && glB sc x && nmB x && chL es sc xs
  | .comp it tg own c e, sc, .ListComp elt [⟨t, iter, ifs, ia⟩] scope _ => decide (ia = 0) && chI it sc iter && blkC N sc scope (ownN N own) && chTg N true (relS scope sc) tg t && chTo c (relS scope sc) ifs && chE e (relS scope sc) elt
  | .dcomp it tg own k e, sc, .DictComp kx vx [⟨t, iter, [], ia⟩] scope _ => decide (ia = 0) && chI it sc iter && blkC N sc scope (ownN N own) && chTg N true (relS scope sc) tg t && chE k (relS scope sc) kx && chE e (relS scope sc) vx
  | .mn a b, sc, .Call (.Name x _) [e, e'] [] _ => decide (x = ("min" : Str)) && glB sc x && chE a sc e && chE b sc e'
  | .flt c i t, sc, .ListComp elt [⟨tg, iter, [ifx], ia⟩] scope _ => decide (ia = 0) && chE c sc iter && blkC N sc scope (ownN N [i]) && tgN N true (relS scope sc) i tg && chT t (relS scope sc) ifx && (match elt with
    | .Name x _ => slotB N (relS scope sc) i x
    | _ => false)
  | _, _, _ => false
def chL : Cs → Scope → List Expr → Bool
  | .nil, _, [] => true
  | .cons c cs, sc, e :: es => chE c sc e && chL cs sc es
  | _, _, _ => false
def chO : Co → Scope → Option Expr → Bool
  | .none, _, none => true
  | .some c, sc, some e => chE c sc e
  | _, _, _ => false
def chTo : To → Scope → List Expr → Bool
  | .none, _, [] => true
  | .some t, sc, [e] => chT t sc e
  | _, _, _ => false
def chT : T → Scope → Expr → Bool
  | .v c, sc, e => plainTest e && chE c sc e
  | .b (.cmp op a b), sc, .Compare l [o] [r] _ => cmpIs op o && chE a sc l && chE b sc r && !isSet r
  | .b (.chain op op' a b c), sc, .Compare l [o, o'] [m, r] _ => cmpIs op o && cmpIs op' o' && chE a sc l && chE b sc m && chE c sc r && !isSet m && !isSet r
  | .b (.isN false a), sc, .Compare l [.Is] [.Constant .none _ _] _ => chE a sc l
  | .b (.isN true a), sc, .Compare l [.IsNot] [.Constant .none _ _] _ => chE a sc l
  | .not t, sc, .UnaryOp .Not e _ => chT t sc e
  | .and (.cons t ts), sc, .BoolOp .And (e :: es) _ => chT t sc e && chTs ts sc es
  | .or (.cons t ts), sc, .BoolOp .Or (e :: es) _ => chT t sc e && chTs ts sc es
  | _, _, _ => false
def chTs : Ts → Scope → List Expr → Bool
  | .nil, _, [] => true
  | .cons t ts, sc, e :: es => chT t sc e && chTs ts sc es
  | _, _, _ => false
def chI : It → Scope → Expr → Bool
  | .r1 a, sc, .Call (.Name x _) [e] [] _ => decide (x = ("range" : Str)) && glB sc x && chE a sc e
  | .r2 a b, sc, .Call (.Name x _) [e, e'] [] _ => decide (x = ("range" : Str)) && glB sc x && chE a sc e && chE b sc e'
  | .seq c, sc, e => chE c sc e
  | _, _, _ => false
end
end
theorem chE_star {N : List Str} {fnm : Nat → Option Str} {c : C} {sc : Scope} {e : Expr} (h : chE N fnm c sc e = true) : isStar e = false := by
  cases e <;> first | rfl | (cases c <;> simp [chE] at h)
theorem chE_slice {N : List Str} {fnm : Nat → Option Str} {c : C} {sc : Scope} {e : Expr} (h : chE N fnm c sc e = true) : ∀ l u s p, e ≠ .Slice l u s p := by
  rintro l u s p rfl
  cases c <;> simp [chE] at h
theorem star_of {e : Expr} {es : List Expr} {env : PySem.Env} (h : isStar e = false) : starEach (e :: es) env = (false, eval e env) :: starEach es env := by
  cases e <;> first | rfl | cases h
theorem noStars {N : List Str} {fnm : Nat → Option Str} {sc : Scope} {env : PySem.Env} {pos : Pos} : ∀ {cs : Cs} {es : List Expr}, chL N fnm cs sc es = true → (backTo pos (starEach es env)).any (·.1) = false
  | .nil, [], _ => rfl
  | .cons c cs, e :: es, h => by
    simp only [chL, Bool.and_eq_true] at h
    rw [star_of (chE_star h.1)]
    show (false || (backTo pos (starEach es env)).any (·.1)) = false
    rw [Bool.false_or]
    exact noStars h.2
  | .nil, _ :: _, h => by simp [chL] at h
  | .cons _ _, [], h => by simp [chL] at h
theorem marks {op : CmpOp} {b : Expr} (h : isSet b = false) : behindInMarks op b = false := by
  cases b <;> first | rfl | cases h
theorem plainIx {b : Expr} (h : ∀ l u s p, b ≠ .Slice l u s p) : PlainIx b := by
  intro o i
  cases b <;> first | rfl | exact absurd rfl (h _ _ _ _)
theorem folded {e : Expr} {env : PySem.Env} (h : isSet e = false) (x : Value) : foldedSetIterable e env x = pure x := by
  cases e <;> first | rfl | cases h
end EV
namespace EV
open PySem PySem.Spec PyProof.Rows L2
/-- where a text's piece is read: the frame and the tables -/
structure Gd (N : List Str) (fnm : Nat → Option Str) (Φ : Nat → FD) (XR : Exc → Value → Option Addr → Hp → Prop) (CX : CXT) (lv : Nat) (E : XK) (blk : Bool) (sc : Scope) (X : Cx) : Prop where
  eN : X.N = N
  nd : X.N.Nodup
  eS : X.env.scope = sc
  kind : sc.kind = .function
  calm : X.calm = true
  room : Room lv X.A
  fn : blk = false → ∀ x, X.fn x = true
  po : PassesOwn (model X.prog X.w) X.A X.env X.xe
  pe : Passes CX X E
  pe0 : Passes CX X E0'
  cx0 : ∀ outer H s e s', CX outer H s E0' e s' → False
  bi : ∀ x : Str, x ∈ ([("len" : Str), "abs", "int", "list", "tuple", "sorted", "isinstance", "range", "bool", "str", "min"] : List Str) → X.mg x = none
  fns : ∀ f x, fnm f = some x → ∃ a fd ps k, k ≤ lv ∧ FnOk X.prog X.w X.K X.mg X.base CX k a fd ps (spF X.K XR (Φ f).n (Φ f).sem) ∧ X.mg x = some (.ref a) ∧ PySem.W.keepIn X.K (.ref a) = true ∧ Binds X.K fd ps []
variable {N : List Str} {fnm : Nat → Option Str} {Φ : Nat → FD} {XR : Exc → Value → Option Addr → Hp → Prop} {CX : CXT} {lv : Nat} {E : XK} {blk : Bool} {sc : Scope} {X : Cx}
theorem Gd.block {scope : Scope} (g : Gd N fnm Φ XR CX lv E blk sc X) (k : scope.kind = .function) (s : Shared) (H : Hp) (C : Addr) (cl : List (Str × Addr)) (fp : List Addr) :
    Gd N fnm Φ XR CX lv E0' true (relS scope sc) (X.blk s H scope (compEnvC scope cl C X.env) fp) :=
  ⟨g.eN, g.nd, by have e := g.eS; subst e; rfl, k, g.calm, g.room, fun h => (by cases h), PassesOwn.never, fun _ _ _ _ _ _ _ h => g.cx0 _ _ _ _ _ h, fun _ _ _ _ _ _ _ h => g.cx0 _ _ _ _ _ h, g.cx0, g.bi, g.fns⟩
theorem Gd.units (g : Gd N fnm Φ XR CX lv E blk sc X) : X.A.units + 66 < cLine := by have := g.room.un; omega
theorem Gd.gl {x : Str} (g : Gd N fnm Φ XR CX lv E blk sc X) (h : glB sc x = true) : Gl X x := by
  show X.env.scope.names.lookup x = some .globalImplicit
  rw [g.eS]; exact of_decide_eq_true h
theorem Gd.slot {i : Nat} {x : Str} {p : Pos} (g : Gd N fnm Φ XR CX lv E blk sc X) (h : slotB N sc i x = true) : PE X (.Name x p) (tVar i) := by
  simp only [slotB, visB, nmB, Bool.and_eq_true, Bool.or_eq_true, decide_eq_true_eq, Bool.not_eq_true'] at h
  obtain ⟨⟨h1, h2⟩, h3, h4⟩ := h
  refine pe_var (by rw [g.eN]; exact h1) ?_ h3 h4
  show X.env.scope.names.lookup x = _ ∨ X.env.scope.names.lookup x = _ ∨ X.env.scope.names.lookup x = _
  rw [g.eS]
  rcases h2 with (h2 | h2) | h2
  · exact .inl h2
  · exact .inr (.inl h2)
  · exact .inr (.inr h2)
theorem Gd.tgN {i : Nat} {e : Expr} (g : Gd N fnm Φ XR CX lv E blk sc X) (h : EV.tgN N blk sc i e = true) : PG X e (gName i) := by
  unfold EV.tgN at h
  split at h
  · rename_i x p
    simp only [stB, Bool.and_eq_true, Bool.or_eq_true, decide_eq_true_eq, Bool.not_eq_true'] at h
    obtain ⟨h1, h2⟩ := h
    have hl : Loc X.env.scope x ∧ (X.fn x = true ∨ X.env.scope.names.lookup x = some .local) := by
      rw [g.eS]
      rcases h2 with h2 | ⟨h2, h3⟩
      · exact ⟨.inl h2, .inr h2⟩
      · exact ⟨.inr h3, .inl (g.fn h2 x)⟩
    exact pg_name g.nd (by rw [g.eN]; exact h1) hl.1 hl.2
  · cases h
theorem notStar_tg {i : Nat} {e : Expr} (h : EV.tgN N blk sc i e = true) : ∃ x p, e = .Name x p := by
  unfold EV.tgN at h
  split at h
  · exact ⟨_, _, rfl⟩
  · cases h
theorem Gd.tgNs (g : Gd N fnm Φ XR CX lv E blk sc X) : ∀ {is : List Nat} {es : List Expr}, EV.tgNs N blk sc is es = true → PGs X es (gAll is) ∧ (assignEach es X.env).length = is.length ∧ (assignEach es X.env).findIdx? (·.1) = none
  | [], [], _ => ⟨pgs_nil, rfl, rfl⟩
  | i :: is, e :: es, h => by
    simp only [EV.tgNs, Bool.and_eq_true] at h
    obtain ⟨r1, r2, r3⟩ := Gd.tgNs g h.2
    have p := g.tgN h.1
    obtain ⟨x, ps, rfl⟩ := notStar_tg h.1
    refine ⟨pgs_cons p r1 rfl, by show (assignEach es X.env).length + 1 = _; rw [r2]; rfl, ?_⟩
    show List.findIdx? (·.1) ((false, assign (.Name x ps) X.env) :: assignEach es X.env) = none
    rw [List.findIdx?_cons, r3]; rfl
  | [], _ :: _, h => by simp [EV.tgNs] at h
  | _ :: _, [], h => by simp [EV.tgNs] at h
theorem Gd.tg {t : Tg} {e : Expr} (g : Gd N fnm Φ XR CX lv E blk sc X) (h : chTg N blk sc t e = true) : PG X e (gT X.K t) := by
  unfold chTg at h
  split at h
  · exact g.tgN h
  · rename_i is es k p
    obtain ⟨r1, r2, r3⟩ := g.tgNs h
    exact pg_tup g.calm r1 r2 r3
  · cases h
theorem cmp_of {op : CmpK} {o : CmpOp} (g : Gd N fnm Φ XR CX lv E blk sc X) (h : cmpIs op o = true) : OpR X (compareOp o) (rCmp X.K op) := by
  refine opCmp (by have := g.units; omega) op o ?_
  cases op <;> cases o <;> first | rfl | cases h
theorem bin_of {op : BinK} {o : Operator} (h : binIs op o = true) : OpR X (binaryOp o) (rBin X.K op) := by
  refine opBin op o ?_
  cases op <;> cases o <;> first | rfl | cases h
theorem and_one {a : Expr} {ta : TE} {pos : Pos} (ha : PE X a ta) : PE X (.BoolOp .And [a] pos) (tAndV ta (tC (.bl true))) := by
  refine ⟨fun pins s τ G Q I hw => BoolOp_one (thn (ha.run pins s τ G _ I hw) fun v s1 ⟨x, G1, J, r, c, e, q⟩ => ⟨x, G1, J, r, ?_⟩)⟩
  subst e
  cases c with
  | true => exact q
  | false => exact q
theorem or_one {a : Expr} {ta : TE} {pos : Pos} (ha : PE X a ta) : PE X (.BoolOp .Or [a] pos) (tOrV ta (tC (.bl false))) := by
  refine ⟨fun pins s τ G Q I hw => BoolOp_one (thn (ha.run pins s τ G _ I hw) fun v s1 ⟨x, G1, J, r, c, e, q⟩ => ⟨x, G1, J, r, ?_⟩)⟩
  subst e
  cases c with
  | true => exact q
  | false => exact q
theorem chain_marks {op op' : CmpOp} {b c : Expr} (h1 : isSet b = false) (h2 : isSet c = false) : lastMarks [op, op'] [b, c] = false := marks h2
theorem ty_of {t : String} {x : Str} {p : Pos} (g : Gd N fnm Φ XR CX lv E blk sc X) (h : tyB t x = true) (hg : glB sc x = true) : PE X (.Name x p) (tC (.ty t)) := by
  simp only [tyB, Bool.or_eq_true, Bool.and_eq_true, decide_eq_true_eq] at h
  rcases h with (((⟨rfl, rfl⟩ | ⟨rfl, rfl⟩) | ⟨rfl, rfl⟩) | ⟨rfl, rfl⟩) | ⟨rfl, rfl⟩
  · exact pe_bltn (g.gl hg) (g.bi _ (by decide)) PyProof.Rows.boot_int rfl
  · exact pe_bltn (g.gl hg) (g.bi _ (by decide)) PyProof.Rows.boot_bool rfl
  · exact pe_bltn (g.gl hg) (g.bi _ (by decide)) PyProof.Rows.boot_list rfl
  · exact pe_bltn (g.gl hg) (g.bi _ (by decide)) PyProof.Rows.boot_tuple rfl
  · exact pe_bltn (g.gl hg) (g.bi _ (by decide)) PyProof.Rows.boot_str rfl
theorem blt_of {b : BK} {e : Expr} {t : TE} {p pos : Pos} (g : Gd N fnm Φ XR CX lv E blk sc X) (hg : glB sc (bkName b) = true) (he : PE X e t) (hs : isStar e = false) : PE X (.Call (.Name (bkName b) p) [e] [] pos) (tCB (rB X.K b) (tCons t tNil)) := by
  have pa : PA X [e] (tCons t tNil) := pa_cons he pa_nil (star_of hs)
  cases b with
  | len => exact pe_callB call_len (g.gl hg) (g.bi _ (by decide)) PySem.boot_len pa (he := star_of hs)
  | abs => exact pe_callB call_abs (g.gl hg) (g.bi _ (by decide)) PyProof.Rows.boot_abs pa (he := star_of hs)
  | int => exact pe_callTy call_int1 (g.gl hg) (g.bi _ (by decide)) PyProof.Rows.boot_int pa (he := star_of hs)
  | list => exact pe_callTy call_list_of (g.gl hg) (g.bi _ (by decide)) PyProof.Rows.boot_list pa (he := star_of hs)
  | tuple => exact pe_callTy call_tuple_of (g.gl hg) (g.bi _ (by decide)) PyProof.Rows.boot_tuple pa (he := star_of hs)
  | sorted => exact pe_callB (CallR.or cr_sortedI (call_sortedDI g.calm)) (g.gl hg) (g.bi _ (by decide)) PyProof.Rows.boot_sorted pa (he := star_of hs)
theorem blkC_kind {scope : Scope} {own : List (Str × Nat)} (h : blkC N sc scope own = true) : scope.kind = .function := (blkOk_by h).kind
theorem ownN_slots (own : List Nat) : (ownN N own).map (·.2) = own := by
  simp [ownN, List.map_map, Function.comp_def]
theorem chE_set {c : C} {e : Expr} (h : chE N fnm c sc e = true) : isSet e = false := by
  cases e <;> first | rfl | (cases c <;> simp [chE] at h)
theorem chI_set {c : EV.It} {e : Expr} (h : chI N fnm c sc e = true) : isSet e = false := by
  cases c with
  | seq c => exact chE_set (by simpa [chI] using h)
  | r1 a => cases e <;> first | rfl | simp [chI] at h
  | r2 a b => cases e <;> first | rfl | simp [chI] at h
/-- a test that is its value's truth -/
theorem plain_truth {e : Expr} (h : plainTest e = true) (env : PySem.Env) (whole : Sem Value) : isTrue e env whole = (do let v ← whole; standAt e.pos; holding [v] (truthy v)) := by
  cases e <;> first | rfl | (rename_i op _ _; cases op <;> first | rfl | cases h) | cases h
/-- a comparison as a test -/
theorem pt_of_cmp {a b : Expr} {ta tb : TE} {op : CmpOp} {r : R2} {pos : Pos} (ho : OpR X (compareOp op) r) (ha : PE X a ta) (hb : PE X b tb) (hm : isSet b = false) : PT X (.Compare a [op] [b] pos) (tTest (tOp r ta tb)) := pt_cmpR ho ha hb (marks hm)
mutual
theorem peE : ∀ (c : C) {sc : Scope} {e : Expr} {E : XK} {blk : Bool} {X : Cx}, Gd N fnm Φ XR CX lv E blk sc X → chE N fnm c sc e = true → PE X e (tE X.K XR Φ E c)
  | .slot i, sc, e, E, blk, X, g, h => by
    cases e <;> try (simp [chE] at h; done)
    simp only [chE] at h
    exact g.slot h
  | .non, sc, e, E, blk, X, g, h => by
    cases e <;> try (simp [chE] at h; done)
    rename_i v k p
    cases v <;> try (simp [chE] at h; done)
    exact pe_non
  | .bl b, sc, e, E, blk, X, g, h => by
    cases e <;> try (simp [chE] at h; done)
    rename_i v k p
    cases v <;> try (simp [chE] at h; done)
    simp only [chE, decide_eq_true_eq] at h
    subst h
    exact pe_bl
  | .int i, sc, e, E, blk, X, g, h => by
    cases e <;> try (simp [chE] at h; done)
    rename_i v k p
    cases v <;> try (simp [chE] at h; done)
    simp only [chE, decide_eq_true_eq] at h
    subst h
    exact pe_int
  | .str z, sc, e, E, blk, X, g, h => by
    cases e <;> try (simp [chE] at h; done)
    rename_i v k p
    cases v <;> try (simp [chE] at h; done)
    simp only [chE, decide_eq_true_eq] at h
    subst h
    exact pe_str
  | .bin op a b, sc, e, E, blk, X, g, h => by
    cases e <;> try (simp [chE] at h; done)
    simp only [chE, Bool.and_eq_true] at h
    exact pe_op (bin_of h.1.1) (peE a g h.1.2) (peE b g h.2)
  | .neg a, sc, e, E, blk, X, g, h => by
    cases e <;> try (simp [chE] at h; done)
    rename_i op v p
    cases op <;> try (simp [chE] at h; done)
    simp only [chE] at h
    exact pe_un un_neg (peE a g h)
  | .cmp op a b, sc, e, E, blk, X, g, h => by
    cases e <;> try (simp [chE] at h; done)
    rename_i l ops cs p
    rcases ops with _ | ⟨o, _ | ⟨o2, ops⟩⟩ <;> rcases cs with _ | ⟨r, _ | ⟨r2, cs⟩⟩ <;> try (simp [chE] at h; done)
    simp only [chE, Bool.and_eq_true, Bool.not_eq_true'] at h
    exact pe_cmpR (cmp_of g h.1.1.1) (peE a g h.1.1.2) (peE b g h.1.2) (marks h.2)
  | .chain op op' a b c, sc, e, E, blk, X, g, h => by
    cases e <;> try (simp [chE] at h; done)
    rename_i l ops cs p
    rcases ops with _ | ⟨o, _ | ⟨o2, _ | ⟨o3, ops⟩⟩⟩ <;> rcases cs with _ | ⟨r, _ | ⟨r2, _ | ⟨r3, cs⟩⟩⟩ <;> try (simp [chE] at h; done)
    simp only [chE, Bool.and_eq_true, Bool.not_eq_true'] at h
    exact pe_chain (cmp_of g h.1.1.1.1.1.1) (cmp_of g h.1.1.1.1.1.2) (peE a g h.1.1.1.1.2) (peE b g h.1.1.1.2) (peE c g h.1.1.2) (chain_marks h.1.2 h.2)
  | .isN n a, sc, e, E, blk, X, g, h => by
    cases e <;> try (cases n <;> simp [chE] at h; done)
    rename_i l ops cs p
    rcases ops with _ | ⟨o, _ | ⟨o2, ops⟩⟩ <;> rcases cs with _ | ⟨r, _ | ⟨r2, cs⟩⟩ <;> try (cases n <;> simp [chE] at h; done)
    cases n
    · cases o <;> try (simp [chE] at h; done)
      cases r <;> try (simp [chE] at h; done)
      rename_i v k p2
      cases v <;> try (simp [chE] at h; done)
      simp only [chE] at h
      exact pe_cmp (pc_isN (peE a g h)) (nobehind _ (by decide) (by decide))
    · cases o <;> try (simp [chE] at h; done)
      cases r <;> try (simp [chE] at h; done)
      rename_i v k p2
      cases v <;> try (simp [chE] at h; done)
      simp only [chE] at h
      exact pe_cmp (pc_notN (peE a g h)) (nobehind _ (by decide) (by decide))
  | .and (.cons c cs), sc, e, E, blk, X, g, h => by
    cases e <;> try (simp [chE] at h; done)
    rename_i op vs p
    cases op <;> try (simp [chE] at h; done)
    cases vs <;> try (simp [chE] at h; done)
    simp only [chE, Bool.and_eq_true] at h
    exact peAnds cs g (peE c g h.1) h.2
  | .or (.cons c cs), sc, e, E, blk, X, g, h => by
    cases e <;> try (simp [chE] at h; done)
    rename_i op vs p
    cases op <;> try (simp [chE] at h; done)
    cases vs <;> try (simp [chE] at h; done)
    simp only [chE, Bool.and_eq_true] at h
    exact peOrs cs g (peE c g h.1) h.2
  | .and .nil, sc, e, E, blk, X, g, h => by simp [chE] at h
  | .or .nil, sc, e, E, blk, X, g, h => by simp [chE] at h
  | .not a, sc, e, E, blk, X, g, h => by
    cases e <;> try (simp [chE] at h; done)
    rename_i op v p
    cases op <;> try (simp [chE] at h; done)
    simp only [chE] at h
    exact pe_not (peE a g h)
  | .ite c a b, sc, e, E, blk, X, g, h => by
    cases e <;> try (simp [chE] at h; done)
    simp only [chE, Bool.and_eq_true] at h
    exact pe_ifExp (peT c g h.1.1) (peE a g h.1.2) (peE b g h.2)
  | .tup es, sc, e, E, blk, X, g, h => by
    cases e <;> try (simp [chE] at h; done)
    simp only [chE] at h
    exact pe_tup (peL es g h)
  | .lst es, sc, e, E, blk, X, g, h => by
    cases e <;> try (simp [chE] at h; done)
    simp only [chE] at h
    exact pe_lst (peL es g h)
  | .dic, sc, e, E, blk, X, g, h => by
    cases e <;> try (simp [chE] at h; done)
    rename_i ks vs p
    rcases ks with _ | ⟨k, ks⟩ <;> rcases vs with _ | ⟨v, vs⟩ <;> try (simp [chE] at h; done)
    exact pe_dnewK
  | .dit, sc, e, E, blk, X, g, h => by
    cases e <;> try (simp [chE] at h; done)
    rename_i ks vs p
    rcases ks with _ | ⟨k, ks⟩ <;> rcases vs with _ | ⟨v, vs⟩ <;> try (simp [chE] at h; done)
    exact pe_dnewT
  | .dic1 a b, sc, e, E, blk, X, g, h => by
    cases e <;> try (simp [chE] at h; done)
    simp only [chE] at h
    split at h
    · rw [Bool.and_eq_true] at h
      exact pe_disp (pps_cons (peE a g h.1) (peE b g h.2) pps_nil) rfl rfl (by simp) (by simp)
    · cases h
  | .ix a b, sc, e, E, blk, X, g, h => by
    cases e <;> try (simp [chE] at h; done)
    simp only [chE, Bool.and_eq_true] at h
    exact pe_ix (ixA (by have := g.units; omega)) (peE a g h.1) (peE b g h.2) (plainIx (chE_slice h.2))
  | .cut a lo hi, sc, e, E, blk, X, g, h => by
    cases e <;> try (simp [chE] at h; done)
    rename_i x y p
    cases y <;> try (simp [chE] at h; done)
    rename_i l u st p2
    cases st <;> try (simp [chE] at h; done)
    simp only [chE, Bool.and_eq_true] at h
    exact pe_slice slA (peE a g h.1.1) (peO lo g h.1.2) (peO hi g h.2)
  | .blt b a, sc, e, E, blk, X, g, h => by
    cases e <;> try (simp [chE] at h; done)
    rename_i f as ks p
    cases f <;> try (simp [chE] at h; done)
    rcases as with _ | ⟨x, _ | ⟨y, as⟩⟩ <;> rcases ks with _ | ⟨k, ks⟩ <;> try (simp [chE] at h; done)
    simp only [chE, Bool.and_eq_true, decide_eq_true_eq] at h
    obtain ⟨⟨rfl, h2⟩, h3⟩ := h
    exact blt_of g h2 (peE a g h3) (chE_star h3)
  | .isi ty a, sc, e, E, blk, X, g, h => by
    cases e <;> try (simp [chE] at h; done)
    rename_i f as ks p
    cases f <;> try (simp [chE] at h; done)
    rcases as with _ | ⟨x, _ | ⟨y, _ | ⟨z, as⟩⟩⟩ <;> rcases ks with _ | ⟨k, ks⟩ <;> try (simp [chE] at h; done)
    cases y <;> try (simp [chE] at h; done)
    simp only [chE, Bool.and_eq_true, decide_eq_true_eq] at h
    obtain ⟨⟨⟨⟨rfl, h2⟩, h3⟩, h4⟩, h5⟩ := h
    have st := chE_star h5
    exact pe_callB call_isi (g.gl h2) (g.bi _ (by decide)) PyProof.Rows.boot_isinstance (pa_cons (peE a g h5) (pa_cons (ty_of g h3 h4) pa_nil) (star_of st)) (he := star_of st)
  | .call f .nil, sc, e, E, blk, X, g, h => by
    cases e <;> try (simp [chE] at h; done)
    rename_i fn as ks p
    cases fn <;> try (simp [chE] at h; done)
    rcases ks with _ | ⟨k, ks⟩ <;> try (simp [chE] at h; done)
    simp only [chE, Bool.and_eq_true, decide_eq_true_eq, nmB, Bool.not_eq_true'] at h
    obtain ⟨⟨⟨h1, h2⟩, h3⟩, h4⟩ := h
    cases as with
    | cons x xs => simp [chL] at h4
    | nil =>
      obtain ⟨a, fd, ps, k, hk, F, m, kp, b⟩ := g.fns f _ h1
      exact pe_call0 F (g.room.mono hk) (g.gl h2) m kp b .nil g.pe h3.1
  | .call f (.cons c cs), sc, e, E, blk, X, g, h => by
    cases e <;> try (simp [chE] at h; done)
    rename_i fn as ks p
    cases fn <;> try (simp [chE] at h; done)
    rcases ks with _ | ⟨k, ks⟩ <;> try (simp [chE] at h; done)
    simp only [chE, Bool.and_eq_true, decide_eq_true_eq, nmB, Bool.not_eq_true'] at h
    obtain ⟨⟨⟨h1, h2⟩, h3⟩, h4⟩ := h
    cases as with
    | nil => simp [chL] at h4
    | cons x xs =>
      simp only [chL, Bool.and_eq_true] at h4
      obtain ⟨a, fd, ps, k, hk, F, m, kp, b⟩ := g.fns f _ h1
      have st := chE_star h4.1
      exact pe_call F (g.room.mono hk) (g.gl h2) m kp b .nil g.pe (pa_cons (peE c g h4.1) (peL cs g h4.2) (star_of st)) h3.1 (star_of st) (noStars h4.2)
  | .comp it tg own c e0, sc, e, E, blk, X, g, h => by
    cases e <;> try (simp [chE] at h; done)
    rename_i elt gens scope p
    rcases gens with _ | ⟨⟨t, iter, ifs, ia⟩, _ | ⟨g2, gens⟩⟩ <;> try (simp [chE] at h; done)
    simp only [chE, Bool.and_eq_true, decide_eq_true_eq] at h
    obtain ⟨⟨⟨⟨⟨rfl, h1⟩, h2⟩, h3⟩, h4⟩, h5⟩ := h
    have ok := blkOk_by h2
    have kd := ok.kind
    have r := pe_lc (own := ownN N own) (pos := p) (g := gT X.K tg) (tt := tTo X.K XR Φ E0' c) (te := tE X.K XR Φ E0' e0) g.calm g.nd (peI it (tg := t) g h1) (by rw [g.eN, g.eS]; exact ok) (fun s H C cl fp => (g.block kd s H C cl fp).tg h3)
      (fun s H C cl fp => peTo c (g.block kd s H C cl fp) h4) (fun s H C cl fp => peE e0 (g.block kd s H C cl fp) h5) (folded (chI_set h1))
    rw [ownN_slots] at r
    exact r
  | .dcomp it tg own k e0, sc, e, E, blk, X, g, h => by
    cases e <;> try (simp [chE] at h; done)
    rename_i kx vx gens scope p
    rcases gens with _ | ⟨⟨t, iter, ifs, ia⟩, _ | ⟨g2, gens⟩⟩ <;> try (simp [chE] at h; done)
    rcases ifs with _ | ⟨i0, ifs⟩ <;> try (simp [chE] at h; done)
    simp only [chE, Bool.and_eq_true, decide_eq_true_eq] at h
    obtain ⟨⟨⟨⟨⟨rfl, h1⟩, h2⟩, h3⟩, h4⟩, h5⟩ := h
    have ok := blkOk_by h2
    have kd := ok.kind
    have r := pe_dc (own := ownN N own) (pos := p) (g := gT X.K tg) (tt := tYes) (tk := tE X.K XR Φ E0' k) (tv := tE X.K XR Φ E0' e0) g.calm g.nd (peI it (tg := t) g h1) (by rw [g.eN, g.eS]; exact ok) (fun s H C cl fp => (g.block kd s H C cl fp).tg h3)
      (fun s H C cl fp => pts_nil) (fun s H C cl fp => peE k (g.block kd s H C cl fp) h4) (fun s H C cl fp => peE e0 (g.block kd s H C cl fp) h5) (folded (chI_set h1))
    rw [ownN_slots] at r
    exact r
  | .mn a b, sc, e, E, blk, X, g, h => by
    cases e <;> try (simp [chE] at h; done)
    rename_i f as ks p
    cases f <;> try (simp [chE] at h; done)
    rcases as with _ | ⟨x, _ | ⟨y, _ | ⟨z, as⟩⟩⟩ <;> rcases ks with _ | ⟨k, ks⟩ <;> try (simp [chE] at h; done)
    simp only [chE, Bool.and_eq_true, decide_eq_true_eq] at h
    obtain ⟨⟨⟨rfl, h2⟩, h3⟩, h4⟩ := h
    have st := chE_star h3
    have st2 := chE_star h4
    exact pe_callB (call_min2 g.calm) (g.gl h2) (g.bi _ (by decide)) PyProof.Rows.boot_min (pa_cons (peE a g h3) (pa_cons (peE b g h4) pa_nil (star_of st2)) (star_of st)) (he := star_of st) (hpl := by rw [star_of st2]; rfl)
  | .flt c i t, sc, e, E, blk, X, g, h => by
    cases e <;> try (simp [chE] at h; done)
    rename_i elt gens scope p
    rcases gens with _ | ⟨⟨tg, iter, ifs, ia⟩, _ | ⟨g2, gens⟩⟩ <;> try (simp [chE] at h; done)
    rcases ifs with _ | ⟨ifx, _ | ⟨i2, ifs⟩⟩ <;> try (simp [chE] at h; done)
    simp only [chE, Bool.and_eq_true, decide_eq_true_eq] at h
    obtain ⟨⟨⟨⟨⟨rfl, h1⟩, h2⟩, h3⟩, h4⟩, h5⟩ := h
    cases elt with
    | Name x5 p5 =>
      have ok := blkOk_by h2
      have kd := ok.kind
      have r := pe_lc (elt := .Name x5 p5) (own := ownN N [i]) (pos := p) (g := gName i) (tt := tT X.K XR Φ E0' t) (te := tVar i) g.calm g.nd (pi_seq (tg := tg) (peE c g h1)) (by rw [g.eN, g.eS]; exact ok) (fun s H C cl fp => (g.block kd s H C cl fp).tgN h3)
        (fun s H C cl fp => pts_one (peT t (g.block kd s H C cl fp) h4)) (fun s H C cl fp => (g.block kd s H C cl fp).slot h5) (folded (chE_set h1))
      rw [ownN_slots] at r
      exact r
    | _ => simp at h5
theorem peAnds : ∀ (cs : Cs) {sc : Scope} {e : Expr} {es : List Expr} {E : XK} {blk : Bool} {X : Cx} {ta : TE} {pos : Pos}, Gd N fnm Φ XR CX lv E blk sc X → PE X e ta → chL N fnm cs sc es = true → PE X (.BoolOp .And (e :: es) pos) (tAndV ta (tAnds X.K XR Φ E cs))
  | .nil, sc, e, es, E, blk, X, ta, pos, g, he, h => by
    cases es <;> try (simp [chL] at h; done)
    exact and_one he
  | .cons c cs, sc, e, es, E, blk, X, ta, pos, g, he, h => by
    cases es <;> try (simp [chL] at h; done)
    simp only [chL, Bool.and_eq_true] at h
    exact pe_and he (peAnds cs g (peE c g h.1) h.2)
theorem peOrs : ∀ (cs : Cs) {sc : Scope} {e : Expr} {es : List Expr} {E : XK} {blk : Bool} {X : Cx} {ta : TE} {pos : Pos}, Gd N fnm Φ XR CX lv E blk sc X → PE X e ta → chL N fnm cs sc es = true → PE X (.BoolOp .Or (e :: es) pos) (tOrV ta (tOrs X.K XR Φ E cs))
  | .nil, sc, e, es, E, blk, X, ta, pos, g, he, h => by
    cases es <;> try (simp [chL] at h; done)
    exact or_one he
  | .cons c cs, sc, e, es, E, blk, X, ta, pos, g, he, h => by
    cases es <;> try (simp [chL] at h; done)
    simp only [chL, Bool.and_eq_true] at h
    exact pe_or he (peOrs cs g (peE c g h.1) h.2)
theorem peL : ∀ (cs : Cs) {sc : Scope} {es : List Expr} {E : XK} {blk : Bool} {X : Cx}, Gd N fnm Φ XR CX lv E blk sc X → chL N fnm cs sc es = true → PA X es (tA X.K XR Φ E cs)
  | .nil, sc, es, E, blk, X, g, h => by
    cases es <;> try (simp [chL] at h; done)
    exact pa_nil
  | .cons c cs, sc, es, E, blk, X, g, h => by
    cases es <;> try (simp [chL] at h; done)
    simp only [chL, Bool.and_eq_true] at h
    exact pa_cons (peE c g h.1) (peL cs g h.2) (star_of (chE_star h.1))
theorem peO : ∀ (c : Co) {sc : Scope} {e : Option Expr} {E : XK} {blk : Bool} {X : Cx}, Gd N fnm Φ XR CX lv E blk sc X → chO N fnm c sc e = true → PO X e (tO X.K XR Φ E c)
  | .none, sc, e, E, blk, X, g, h => by
    cases e <;> try (simp [chO] at h; done)
    exact po_none
  | .some c, sc, e, E, blk, X, g, h => by
    cases e <;> try (simp [chO] at h; done)
    exact po_some (peE c g h)
theorem peTo : ∀ (c : To) {sc : Scope} {es : List Expr} {E : XK} {blk : Bool} {X : Cx}, Gd N fnm Φ XR CX lv E blk sc X → chTo N fnm c sc es = true → PTs X es (tTo X.K XR Φ E c)
  | .none, sc, es, E, blk, X, g, h => by
    cases es <;> try (simp [chTo] at h; done)
    exact pts_nil
  | .some t, sc, es, E, blk, X, g, h => by
    rcases es with _ | ⟨e, _ | ⟨e2, es⟩⟩ <;> try (simp [chTo] at h; done)
    exact pts_one (peT t g h)
theorem peT : ∀ (t : T) {sc : Scope} {e : Expr} {E : XK} {blk : Bool} {X : Cx}, Gd N fnm Φ XR CX lv E blk sc X → chT N fnm t sc e = true → PT X e (tT X.K XR Φ E t)
  | .v c, sc, e, E, blk, X, g, h => by
    simp only [chT, Bool.and_eq_true] at h
    exact pt_truth (peE c g h.2) (plain_truth h.1 X.env)
  | .b c, sc, e, E, blk, X, g, h => by
    cases c with
    | cmp op a b =>
      cases e <;> try (simp [chT] at h; done)
      rename_i l ops cs p
      rcases ops with _ | ⟨o, _ | ⟨o2, ops⟩⟩ <;> rcases cs with _ | ⟨r, _ | ⟨r2, cs⟩⟩ <;> try (simp [chT] at h; done)
      simp only [chT, Bool.and_eq_true, Bool.not_eq_true'] at h
      exact pt_of_cmp (cmp_of g h.1.1.1) (peE a g h.1.1.2) (peE b g h.1.2) h.2
    | chain op op' a b c =>
      cases e <;> try (simp [chT] at h; done)
      rename_i l ops cs p
      rcases ops with _ | ⟨o, _ | ⟨o2, _ | ⟨o3, ops⟩⟩⟩ <;> rcases cs with _ | ⟨r, _ | ⟨r2, _ | ⟨r3, cs⟩⟩⟩ <;> try (simp [chT] at h; done)
      simp only [chT, Bool.and_eq_true, Bool.not_eq_true'] at h
      exact pt_chain (cmp_of g h.1.1.1.1.1.1) (cmp_of g h.1.1.1.1.1.2) (peE a g h.1.1.1.1.2) (peE b g h.1.1.1.2) (peE c g h.1.1.2) (chain_marks h.1.2 h.2)
    | isN n a =>
      cases e <;> try (cases n <;> simp [chT] at h; done)
      rename_i l ops cs p
      rcases ops with _ | ⟨o, _ | ⟨o2, ops⟩⟩ <;> rcases cs with _ | ⟨r, _ | ⟨r2, cs⟩⟩ <;> try (cases n <;> simp [chT] at h; done)
      cases n
      · cases o <;> try (simp [chT] at h; done)
        cases r <;> try (simp [chT] at h; done)
        rename_i v k p2
        cases v <;> try (simp [chT] at h; done)
        simp only [chT] at h
        exact pt_cmp (pc_isN (peE a g h)) (nobehind _ (by decide) (by decide))
      · cases o <;> try (simp [chT] at h; done)
        cases r <;> try (simp [chT] at h; done)
        rename_i v k p2
        cases v <;> try (simp [chT] at h; done)
        simp only [chT] at h
        exact pt_cmp (pc_notN (peE a g h)) (nobehind _ (by decide) (by decide))
    | _ => simp [chT] at h
  | .not t, sc, e, E, blk, X, g, h => by
    cases e <;> try (simp [chT] at h; done)
    rename_i op v p
    cases op <;> try (simp [chT] at h; done)
    simp only [chT] at h
    exact pt_not (peT t g h)
  | .and (.cons t ts), sc, e, E, blk, X, g, h => by
    cases e <;> try (simp [chT] at h; done)
    rename_i op vs p
    cases op <;> try (simp [chT] at h; done)
    cases vs <;> try (simp [chT] at h; done)
    simp only [chT, Bool.and_eq_true] at h
    exact (peTA ts g (peT t g h.1) h.2).pt
  | .or (.cons t ts), sc, e, E, blk, X, g, h => by
    cases e <;> try (simp [chT] at h; done)
    rename_i op vs p
    cases op <;> try (simp [chT] at h; done)
    cases vs <;> try (simp [chT] at h; done)
    simp only [chT, Bool.and_eq_true] at h
    exact (peTO ts g (peT t g h.1) h.2).pt
  | .and .nil, sc, e, E, blk, X, g, h => by simp [chT] at h
  | .or .nil, sc, e, E, blk, X, g, h => by simp [chT] at h
theorem peTA : ∀ (ts : Ts) {sc : Scope} {e : Expr} {es : List Expr} {E : XK} {blk : Bool} {X : Cx} {ta : TT} {pos : Pos}, Gd N fnm Φ XR CX lv E blk sc X → PT X e ta → chTs N fnm ts sc es = true → PW X (.BoolOp .And (e :: es) pos) (tAnd ta (tTA X.K XR Φ E ts))
  | .nil, sc, e, es, E, blk, X, ta, pos, g, he, h => by
    cases es <;> try (simp [chTs] at h; done)
    refine ⟨fun wh pins s τ G Q I hw => ?_⟩
    refine isTrue_and (thn (he.run pins s τ G _ I hw) fun c s1 ⟨G1, J, q⟩ => ?_)
    cases c with
    | true => exact isTrue_and_nil ⟨G1, J, q⟩
    | false => exact ⟨G1, J, q⟩
  | .cons t ts, sc, e, es, E, blk, X, ta, pos, g, he, h => by
    cases es <;> try (simp [chTs] at h; done)
    simp only [chTs, Bool.and_eq_true] at h
    exact pw_and he (peTA ts g (peT t g h.1) h.2)
theorem peTO : ∀ (ts : Ts) {sc : Scope} {e : Expr} {es : List Expr} {E : XK} {blk : Bool} {X : Cx} {ta : TT} {pos : Pos}, Gd N fnm Φ XR CX lv E blk sc X → PT X e ta → chTs N fnm ts sc es = true → PW X (.BoolOp .Or (e :: es) pos) (tOr ta (tTO X.K XR Φ E ts))
  | .nil, sc, e, es, E, blk, X, ta, pos, g, he, h => by
    cases es <;> try (simp [chTs] at h; done)
    refine ⟨fun wh pins s τ G Q I hw => ?_⟩
    refine isTrue_or (thn (he.run pins s τ G _ I hw) fun c s1 ⟨G1, J, q⟩ => ?_)
    cases c with
    | true => exact ⟨G1, J, q⟩
    | false => exact isTrue_or_nil ⟨G1, J, q⟩
  | .cons t ts, sc, e, es, E, blk, X, ta, pos, g, he, h => by
    cases es <;> try (simp [chTs] at h; done)
    simp only [chTs, Bool.and_eq_true] at h
    exact pw_or he (peTO ts g (peT t g h.1) h.2)
theorem peI : ∀ (c : EV.It) {sc : Scope} {tg e : Expr} {E : XK} {blk : Bool} {X : Cx}, Gd N fnm Φ XR CX lv E blk sc X → chI N fnm c sc e = true → PI X tg e (tI X.K XR Φ E c)
  | .r1 a, sc, tg, e, E, blk, X, g, h => by
    cases e <;> try (simp [chI] at h; done)
    rename_i f as ks p
    cases f <;> try (simp [chI] at h; done)
    rcases as with _ | ⟨x, _ | ⟨y, as⟩⟩ <;> rcases ks with _ | ⟨k, ks⟩ <;> try (simp [chI] at h; done)
    simp only [chI, Bool.and_eq_true, decide_eq_true_eq] at h
    obtain ⟨⟨rfl, h2⟩, h3⟩ := h
    have st := chE_star h3
    exact pi_range1 (g.gl h2) (g.bi _ (by decide)) (pa_cons (peE a g h3) pa_nil (star_of st)) (star_of st)
  | .r2 a b, sc, tg, e, E, blk, X, g, h => by
    cases e <;> try (simp [chI] at h; done)
    rename_i f as ks p
    cases f <;> try (simp [chI] at h; done)
    rcases as with _ | ⟨x, _ | ⟨y, _ | ⟨z, as⟩⟩⟩ <;> rcases ks with _ | ⟨k, ks⟩ <;> try (simp [chI] at h; done)
    simp only [chI, Bool.and_eq_true, decide_eq_true_eq] at h
    obtain ⟨⟨⟨rfl, h2⟩, h3⟩, h4⟩ := h
    have st := chE_star h3
    have st2 := chE_star h4
    exact pi_range2 (g.gl h2) (g.bi _ (by decide)) (pa_cons (peE a g h3) (pa_cons (peE b g h4) pa_nil (star_of st2)) (star_of st)) ((star_of st).trans (by rw [star_of st2]; rfl)) (star_of st2)
  | .seq c, sc, tg, e, E, blk, X, g, h => pi_seq (peE c g (by simpa [chI] using h))
end
end EV
namespace EV
open PySem PySem.Spec PyProof.Rows L2
/-! ### statements of the text -/
def swB (sc : Scope) (v : Expr) (x : Str) (p : Pos) : Bool := match v with
  | .ListComp _ _ s _ => decide (sc.names.lookup x = some .local) && p.line == v.pos.line && !(s.names.any fun (n, k) => n == x && (k == .local || k == .cell))
  | .SetComp _ _ s _ => decide (sc.names.lookup x = some .local) && p.line == v.pos.line && !(s.names.any fun (n, k) => n == x && (k == .local || k == .cell))
  | .DictComp _ _ _ s _ => decide (sc.names.lookup x = some .local) && p.line == v.pos.line && !(s.names.any fun (n, k) => n == x && (k == .local || k == .cell))
  | _ => false
theorem sw_eval {sc : Scope} {v : Expr} {x : Str} {p : Pos} {l : Nat} {env : PySem.Env} (e : env.scope = sc) (k : sc.kind = .function) : swapsWith v (some (.Name x p)) l env = pure (swB sc v x p) := by
  have hb : env.blockKind = .function := by unfold Env.blockKind; rw [e, k]; rfl
  have hk : (env.kindOf x == some .local) = decide (sc.names.lookup x = some .local) := by
    show (env.scope.names.lookup x == some .local) = _
    rw [e]
    by_cases h : sc.names.lookup x = some .local
    · rw [h]; rfl
    · rw [decide_eq_false h]
      exact beq_eq_false_iff_ne.mpr h
  cases v <;> first | rfl | (unfold swapsWith swB; simp only [hb, hk]; rfl)
def isTup : Expr → Bool
  | .Tuple _ _ _ => true | _ => false
section
variable (N : List Str) (fnm : Nat → Option Str)
def chP (i : Nat) : Cs → Scope → Expr → Bool
  | .nil, sc, .Name x _ => slotB N sc i x
  | .cons k ks, sc, .Subscript r y _ => chP i ks sc r && chE N fnm k sc y
  | _, _, _ => false
def chAsg (t : Tg) (e : C) (sc : Scope) (tg v : Expr) : Bool := match t with
  | .name i => tgN N false sc i tg && chE N fnm e sc v
  | .tup is => chTg N false sc (.tup is) tg && chE N fnm e sc v && !isComp v && !isTup v
def chMv (i j : Nat) (sc : Scope) (tg v : Expr) : Bool := match v with
  | .Name y _ => tgN N false sc i tg && slotB N sc j y
  | _ => false
def chPut (i : Nat) (path : Cs) (k e : C) (sc : Scope) (tg v : Expr) : Bool := match tg with
  | .Subscript r y _ => chP N fnm i path sc r && chE N fnm k sc y && chE N fnm e sc v
  | _ => false
/-- name.m(arg): the name, m, the arg, on one row -/
def unMeth : Expr → Option (Str × Pos × Str × Pos × Expr × Pos)
  | .Call (.Attribute (.Name r rp) m ap) [a] [] cp => if ap.endLine == cp.line then some (r, rp, m, ap, a, cp) else none
  | _ => none
theorem unMeth_inv {v : Expr} {r : Str × Pos × Str × Pos × Expr × Pos} (h : unMeth v = some r) : v = .Call (.Attribute (.Name r.1 r.2.1) r.2.2.1 r.2.2.2.1) [r.2.2.2.2.1] [] r.2.2.2.2.2 ∧ (r.2.2.2.1.endLine == r.2.2.2.2.2.line) = true := by
  unfold unMeth at h
  split at h
  · split at h
    · rename_i h2
      cases h
      exact ⟨rfl, h2⟩
    · cases h
  · cases h
def chApop (i j : Nat) (k : C) (sc : Scope) (v : Expr) : Bool := match unMeth v with
  | some (r, _, m, _, a, _) => (match unMeth a with
    | some (r2, _, m2, _, a2, _) => decide (m = ("append" : Str)) && decide (m2 = ("pop" : Str)) && slotB N sc i r && slotB N sc j r2 && chE N fnm k sc a2
    | none => false)
  | none => false
def chEach (i gi : Nat) (e : C) (sc : Scope) (t x : Expr) (b : List Stmt) : Bool := match x, b with
  | .Name r _, [.Expr v _] => slotB N sc i r && tgN N false sc gi t && (match unMeth v with
    | some (r2, _, m, _, a, _) => decide (m = ("append" : Str)) && slotB N sc gi r2 && chE N fnm e sc a
    | none => false)
  | _, _ => false
mutual
def chS : EV.S → Scope → Stmt → Bool
  | .asg t e, sc, .Assign [tg] v _ => chAsg N fnm t e sc tg v
  | .mvs i j, sc, .Assign [tg] v _ => chMv N i j sc tg v
  | .put i path k e, sc, .Assign [tg] v _ => chPut N fnm i path k e sc tg v
  | .aug i false e, sc, .AugAssign (.Name x p) .Add v _ => tgN N false sc i (.Name x p) && chE N fnm e sc v
  | .aug i true e, sc, .AugAssign (.Name x p) .Sub v _ => tgN N false sc i (.Name x p) && chE N fnm e sc v
  | .app i path e, sc, .Expr (.Call (.Attribute r m ap) [a] [] cp) _ => decide (m = ("append" : Str)) && chP N fnm i path sc r && chE N fnm e sc a && (ap.endLine == cp.line)
  | .augp i path k false e, sc, .AugAssign (.Subscript r y _) .Add v _ => chP N fnm i path sc r && chE N fnm k sc y && chE N fnm e sc v
  | .augp i path k true e, sc, .AugAssign (.Subscript r y _) .Sub v _ => chP N fnm i path sc r && chE N fnm k sc y && chE N fnm e sc v
  | .expr e, sc, .Expr v _ => chE N fnm e sc v && !isComp v
  | .ife t a b, sc, .If e x y _ => chT N fnm t sc e && chSs a sc x && chSs b sc y
  | .whl _ t b, sc, .While e x [] _ => chT N fnm t sc e && chSs b sc x
  | .fr it tg b, sc, .For t e x [] _ => chI N fnm it sc e && chTg N false sc tg t && chSs b sc x
  | .ret e, sc, .Return (some v) _ => chE N fnm e sc v
  | .retn, _, .Return none _ => true
  | .retmv i, sc, .Return (some (.Name x _)) _ => slotB N sc i x
  | .apop i j k, sc, .Expr v _ => chApop N fnm i j k sc v
  | .each i gi e, sc, .For t x b [] _ => chEach N fnm i gi e sc t x b
  | .brk, _, .Break _ => true
  | .cont, _, .Continue _ => true
  | .pass, _, .Pass _ => true
  | _, _, _ => false
def chSs : Ss → Scope → List Stmt → Bool
  | .nil, _, [] => true
  | .cons (.frz _) ss, sc, sts => chSs ss sc sts
  | .cons s ss, sc, st :: sts => chS s sc st && chSs ss sc sts
  | _, _, _ => false
end
end
variable {N : List Str} {fnm : Nat → Option Str} {Φ : Nat → FD} {XR : Exc → Value → Option Addr → Hp → Prop} {CX : CXT} {lv : Nat} {E : XK} {blk : Bool} {sc : Scope} {X : Cx}
theorem peP (i : Nat) : ∀ (ks : Cs) {e : Expr}, Gd N fnm Φ XR CX lv E blk sc X → chP N fnm i ks sc e = true → PE X e (tP X.K XR Φ i ks)
  | .nil, e, g, h => by
    cases e <;> try (simp [chP] at h; done)
    exact g.slot h
  | .cons k ks, e, g, h => by
    cases e <;> try (simp [chP] at h; done)
    simp only [chP, Bool.and_eq_true] at h
    have g0 : Gd N fnm Φ XR CX lv E0' blk sc X := ⟨g.eN, g.nd, g.eS, g.kind, g.calm, g.room, g.fn, g.po, g.pe0, g.pe0, g.cx0, g.bi, g.fns⟩
    exact pe_ix (ixA (by have := g.units; omega)) (peP i ks g h.1) (peE k g0 h.2) (plainIx (chE_slice h.2))
theorem Gd.zero (g : Gd N fnm Φ XR CX lv E blk sc X) : Gd N fnm Φ XR CX lv E0' blk sc X := ⟨g.eN, g.nd, g.eS, g.kind, g.calm, g.room, g.fn, g.po, g.pe0, g.pe0, g.cx0, g.bi, g.fns⟩
theorem chP_base {i : Nat} {ks : Cs} {e : Expr} (h : chP N fnm i ks sc e = true) (m : Str) (env : PySem.Env) : attributeBase e m env (eval e env) = eval e env := by
  cases e <;> first | rfl | (cases ks <;> simp [chP] at h)
theorem tgN_loc {i : Nat} {x : Str} {p : Pos} (g : Gd N fnm Φ XR CX lv E false sc X) (h : EV.tgN N false sc i (.Name x p) = true) : X.N[i]? = some x ∧ L2.Loc X.env.scope x := by
  simp only [EV.tgN, stB, Bool.and_eq_true, Bool.or_eq_true, decide_eq_true_eq] at h
  rw [g.eN, g.eS]
  refine ⟨h.1, ?_⟩
  rcases h.2 with h | h
  · exact .inl h
  · exact .inr h.2
theorem few {e : Expr} {pos : Pos} {env : PySem.Env} (h : isStar e = false) : ((backTo pos (starEach [e] env)).all (fun x => !x.1) && (backToKw pos (keywordEach [] env)).all (fun x => x.1.isSome)
      && decide ([e].length + ([] : List Keyword).length + (if ([] : List Keyword).isEmpty then 0 else 1) < 30)) = true := by
  rw [star_of h]; rfl
theorem noSwap {v : Expr} {t : Option Expr} {l : Nat} {env : PySem.Env} (h : isComp v = false) : swapsWith v t l env = pure false := by
  cases v <;> first | rfl | cases h
theorem noSwap2 {v r y : Expr} {p : Pos} {l : Nat} {env : PySem.Env} : swapsWithSole [.Subscript r y p] v l env = pure false := by
  cases v <;> rfl
/-- name = value, whatever the value -/
theorem ps_name {i : Nat} {x : Str} {p pos : Pos} {c : C} {v : Expr} (g : Gd N fnm Φ XR CX lv E false sc X) (ht : EV.tgN N false sc i (.Name x p) = true) (h : chE N fnm c sc v = true) :
    PS X (.Assign [.Name x p] v pos) (tAsg (tE X.K XR Φ E c) (gName i)) := by
  obtain ⟨hi, hl⟩ := tgN_loc g ht
  have hsw := sw_eval (v := v) (x := x) (p := p) (l := pos.line) g.eS g.kind
  by_cases hs : swB sc v x p = true
  · rw [hs] at hsw
    have loc : X.env.scope.names.lookup x = some .local := by
      rw [g.eS]
      unfold swB at hs
      split at hs
      · simp only [Bool.and_eq_true, decide_eq_true_eq] at hs; exact hs.1.1
      · simp only [Bool.and_eq_true, decide_eq_true_eq] at hs; exact hs.1.1
      · simp only [Bool.and_eq_true, decide_eq_true_eq] at hs; exact hs.1.1
      · cases hs
    cases v <;> try (simp [swB] at hs; done)
    · rename_i elt gens scope cp
      cases c <;> try (simp [chE] at h; done)
      rotate_left
      · rename_i c0 i0 t0
        rcases gens with _ | ⟨⟨t, iter, ifs, ia⟩, _ | ⟨g2, gens⟩⟩ <;> try (simp [chE] at h; done)
        rcases ifs with _ | ⟨ifx, _ | ⟨i2, ifs⟩⟩ <;> try (simp [chE] at h; done)
        simp only [chE, Bool.and_eq_true, decide_eq_true_eq] at h
        obtain ⟨⟨⟨⟨⟨rfl, h1⟩, h2⟩, h3⟩, h4⟩, h5⟩ := h
        cases elt with
        | Name x5 p5 =>
          have ok := blkOk_by h2
          have kd := ok.kind
          have r := ps_setLc (elt := .Name x5 p5) (own := ownN N [i0]) (g := gName i0) (tt := tT X.K XR Φ E0' t0) (te := tVar i0) g.calm g.nd hi loc hsw (pi_seq (tg := t) (peE c0 g h1)) (by rw [g.eN, g.eS]; exact ok) (fun s H C cl fp => (g.block kd s H C cl fp).tgN h3)
            (fun s H C cl fp => pts_one (peT t0 (g.block kd s H C cl fp) h4)) (fun s H C cl fp => (g.block kd s H C cl fp).slot h5) (folded (chE_set h1))
          rw [ownN_slots] at r
          exact r
        | _ => simp at h5
      rename_i it tg own c e0
      rcases gens with _ | ⟨⟨t, iter, ifs, ia⟩, _ | ⟨g2, gens⟩⟩ <;> try (simp [chE] at h; done)
      simp only [chE, Bool.and_eq_true, decide_eq_true_eq] at h
      obtain ⟨⟨⟨⟨⟨rfl, h1⟩, h2⟩, h3⟩, h4⟩, h5⟩ := h
      have ok := blkOk_by h2
      have kd := ok.kind
      have r := ps_setLc (own := ownN N own) (g := gT X.K tg) (tt := tTo X.K XR Φ E0' c) (te := tE X.K XR Φ E0' e0) g.calm g.nd hi loc hsw (peI it (tg := t) g h1) (by rw [g.eN, g.eS]; exact ok) (fun s H C cl fp => (g.block kd s H C cl fp).tg h3)
        (fun s H C cl fp => peTo c (g.block kd s H C cl fp) h4) (fun s H C cl fp => peE e0 (g.block kd s H C cl fp) h5) (folded (chI_set h1))
      rw [ownN_slots] at r
      exact r
    · simp [chE] at h
    · rename_i kx vx gens scope cp
      cases c <;> try (simp [chE] at h; done)
      rename_i it tg own k e0
      rcases gens with _ | ⟨⟨t, iter, ifs, ia⟩, _ | ⟨g2, gens⟩⟩ <;> try (simp [chE] at h; done)
      rcases ifs with _ | ⟨i0, ifs⟩ <;> try (simp [chE] at h; done)
      simp only [chE, Bool.and_eq_true, decide_eq_true_eq] at h
      obtain ⟨⟨⟨⟨⟨rfl, h1⟩, h2⟩, h3⟩, h4⟩, h5⟩ := h
      have ok := blkOk_by h2
      have kd := ok.kind
      have r := ps_setDc (mine := ownN N own) (g := gT X.K tg) (tk := tE X.K XR Φ E0' k) (tv := tE X.K XR Φ E0' e0) g.calm g.nd hi loc hsw (peI it (tg := t) g h1) (by rw [g.eN, g.eS]; exact ok) (fun s H C cl fp => (g.block kd s H C cl fp).tg h3)
        (fun s H C cl fp => peE k (g.block kd s H C cl fp) h4) (fun s H C cl fp => peE e0 (g.block kd s H C cl fp) h5) (folded (chI_set h1))
      rw [ownN_slots] at r
      exact r
  · have hs : swB sc v x p = false := by simpa using hs
    rw [hs] at hsw
    exact ps_set g.nd hi hl (peE c g h) hsw (.inl (g.fn rfl x))
theorem chSs_inv {s : EV.S} {ss : Ss} {sc : Scope} {sts : List Stmt} (h : chSs N fnm (.cons s ss) sc sts = true) :
    (∃ i, s = .frz i ∧ chSs N fnm ss sc sts = true) ∨ ∃ st sts', sts = st :: sts' ∧ chS N fnm s sc st = true ∧ chSs N fnm ss sc sts' = true := by
  cases s <;> first
    | exact .inl ⟨_, rfl, by simpa [chSs] using h⟩
    | (cases sts with
       | nil => simp [chSs] at h
       | cons st sts => simp only [chSs, Bool.and_eq_true] at h; exact .inr ⟨st, sts, rfl, h.1, h.2⟩)
theorem ps_sasg (t0 : Tg) (e : C) {sc : Scope} {st : Stmt} {E : XK} {X : Cx} (g : Gd N fnm Φ XR CX lv E false sc X) (h : chS N fnm (.asg t0 e) sc st = true) : PS X st (tS X.K XR Φ E (.asg t0 e)) := by
  cases st <;> try (simp [chS] at h; done)
  rename_i ts v p
  rcases ts with _ | ⟨t, _ | ⟨t2, ts⟩⟩ <;> try (simp [chS] at h; done)
  simp only [chS] at h
  cases t0 with
  | name i =>
    simp only [chAsg, Bool.and_eq_true] at h
    have h1 := h.1
    unfold EV.tgN at h1
    cases t <;> try (cases h1; done)
    exact ps_name g h.1 h.2
  | tup is =>
    simp only [chAsg, Bool.and_eq_true, Bool.not_eq_true'] at h
    refine ps_asg (peE e g h.1.1.2) (g.tg h.1.1.1) ?_ ?_ ?_
    · unfold swapsWithSole
      exact noSwap h.1.2
    · cases v <;> first | (cases t <;> rfl) | (simp [isTup] at h)
    · have h1 := h.1.1.1
      unfold chTg at h1
      cases t <;> try (cases h1; done)
      rfl
theorem ps_smvs (i j : Nat) {sc : Scope} {st : Stmt} {E : XK} {X : Cx} (g : Gd N fnm Φ XR CX lv E false sc X) (h : chS N fnm (.mvs i j) sc st = true) : PS X st (tS X.K XR Φ E (.mvs i j)) := by
  cases st <;> try (simp [chS] at h; done)
  rename_i ts v p
  rcases ts with _ | ⟨t, _ | ⟨t2, ts⟩⟩ <;> try (simp [chS] at h; done)
  simp only [chS] at h
  cases v <;> try (simp [chMv] at h; done)
  simp only [chMv, Bool.and_eq_true] at h
  have h1 := h.1
  unfold EV.tgN at h1
  cases t <;> try (cases h1; done)
  obtain ⟨hi, hl⟩ := tgN_loc g h.1
  exact ps_set g.nd hi hl (g.slot h.2) rfl (.inl (g.fn rfl _))
theorem ps_saug (i : Nat) (n : Bool) (e : C) {sc : Scope} {st : Stmt} {E : XK} {X : Cx} (g : Gd N fnm Φ XR CX lv E false sc X) (h : chS N fnm (.aug i n e) sc st = true) : PS X st (tS X.K XR Φ E (.aug i n e)) := by
  cases st <;> try (cases n <;> simp [chS] at h; done)
  rename_i t op v p
  cases t <;> try (cases n <;> simp [chS] at h; done)
  cases n
  · cases op <;> try (simp [chS] at h; done)
    simp only [chS, Bool.and_eq_true] at h
    obtain ⟨hi, hl⟩ := tgN_loc g h.1
    exact ps_aug g.nd hi hl (peE e g h.2) (by simpa using ip_add) (.inl (g.fn rfl _))
  · cases op <;> try (simp [chS] at h; done)
    simp only [chS, Bool.and_eq_true] at h
    obtain ⟨hi, hl⟩ := tgN_loc g h.1
    exact ps_aug g.nd hi hl (peE e g h.2) (by simpa using ip_sub) (.inl (g.fn rfl _))
theorem ps_sapp (i : Nat) (path : Cs) (e : C) {sc : Scope} {st : Stmt} {E : XK} {X : Cx} (g : Gd N fnm Φ XR CX lv E false sc X) (h : chS N fnm (.app i path e) sc st = true) : PS X st (tS X.K XR Φ E (.app i path e)) := by
  cases st <;> try (simp [chS] at h; done)
  rename_i v p
  cases v <;> try (simp [chS] at h; done)
  rename_i f as ks cp
  cases f <;> try (simp [chS] at h; done)
  rcases as with _ | ⟨a, _ | ⟨a2, as⟩⟩ <;> rcases ks with _ | ⟨k, ks⟩ <;> try (simp [chS] at h; done)
  simp only [chS, Bool.and_eq_true, decide_eq_true_eq] at h
  obtain ⟨⟨⟨rfl, h2⟩, h3⟩, h4⟩ := h
  have st := chE_star h3
  exact ps_expr (pe_bm PySem.F.plainAttrs_list PySem.F.slot_list_append PySem.F.type_list_append mt_append (peP i path g h2) (pa_cons (peE e g.zero h3) pa_nil (star_of st)) (chP_base h2 _ _) (few st) h4 (star_of st) rfl) rfl
theorem ps_sput (i : Nat) (path : Cs) (k e : C) {sc : Scope} {st : Stmt} {E : XK} {X : Cx} (g : Gd N fnm Φ XR CX lv E false sc X) (h : chS N fnm (.put i path k e) sc st = true) : PS X st (tS X.K XR Φ E (.put i path k e)) := by
  cases st <;> try (simp [chS] at h; done)
  rename_i ts v p
  rcases ts with _ | ⟨t, _ | ⟨t2, ts⟩⟩ <;> try (simp [chS] at h; done)
  simp only [chS] at h
  cases t <;> try (simp [chPut] at h; done)
  rename_i r y p2
  simp only [chPut, Bool.and_eq_true] at h
  refine ps_asg (peE e g h.2) (pg_sub (peP i path g h.1.1) (peE k g.zero h.1.2) (putA (by have := g.units; omega)) ?_) noSwap2 ?_ rfl
  · intro w
    cases y <;> first | rfl | exact absurd rfl (chE_slice h.1.2 _ _ _ _)
  · cases v <;> rfl
theorem ps_saugp (i : Nat) (path : Cs) (k : C) (n : Bool) (e : C) {sc : Scope} {st : Stmt} {E : XK} {X : Cx} (g : Gd N fnm Φ XR CX lv E false sc X) (h : chS N fnm (.augp i path k n e) sc st = true) : PS X st (tS X.K XR Φ E (.augp i path k n e)) := by
  cases st <;> try (cases n <;> simp [chS] at h; done)
  rename_i t op v p
  cases t <;> try (cases n <;> simp [chS] at h; done)
  rename_i r y p2
  cases n
  · cases op <;> try (simp [chS] at h; done)
    simp only [chS, Bool.and_eq_true] at h
    refine ps_augS (peP i path g h.1.1) (peE k g.zero h.1.2) (getA (by have := g.units; omega)) (peE e g.zero h.2) (by simpa using ip_add) (putA (by have := g.units; omega)) ?_
    intro a b c
    cases y <;> first | rfl | exact absurd rfl (chE_slice h.1.2 _ _ _ _)
  · cases op <;> try (simp [chS] at h; done)
    simp only [chS, Bool.and_eq_true] at h
    refine ps_augS (peP i path g h.1.1) (peE k g.zero h.1.2) (getA (by have := g.units; omega)) (peE e g.zero h.2) (by simpa using ip_sub) (putA (by have := g.units; omega)) ?_
    intro a b c
    cases y <;> first | rfl | exact absurd rfl (chE_slice h.1.2 _ _ _ _)
theorem ps_sexpr (e : C) {sc : Scope} {st : Stmt} {E : XK} {X : Cx} (g : Gd N fnm Φ XR CX lv E false sc X) (h : chS N fnm (.expr e) sc st = true) : PS X st (tS X.K XR Φ E (.expr e)) := by
  cases st <;> try (simp [chS] at h; done)
  simp only [chS, Bool.and_eq_true, Bool.not_eq_true'] at h
  exact ps_expr (peE e g h.1) (noSwap h.2)
theorem ps_sret (e : C) {sc : Scope} {st : Stmt} {E : XK} {X : Cx} (g : Gd N fnm Φ XR CX lv E false sc X) (h : chS N fnm (.ret e) sc st = true) : PS X st (tS X.K XR Φ E (.ret e)) := by
  cases st <;> try (simp [chS] at h; done)
  rename_i v p
  cases v <;> try (simp [chS] at h; done)
  exact ps_ret (peE e g h)
theorem ps_sretn  {sc : Scope} {st : Stmt} {E : XK} {X : Cx} (g : Gd N fnm Φ XR CX lv E false sc X) (h : chS N fnm (.retn ) sc st = true) : PS X st (tS X.K XR Φ E (.retn )) := by
  cases st <;> try (simp [chS] at h; done)
  rename_i v p
  cases v <;> try (simp [chS] at h; done)
  exact ps_retN
theorem ps_sretmv (i : Nat) {sc : Scope} {st : Stmt} {E : XK} {X : Cx} (g : Gd N fnm Φ XR CX lv E false sc X) (h : chS N fnm (.retmv i) sc st = true) : PS X st (tS X.K XR Φ E (.retmv i)) := by
  cases st <;> try (simp [chS] at h; done)
  rename_i v p
  cases v <;> try (simp [chS] at h; done)
  rename_i v
  cases v <;> try (simp [chS] at h; done)
  exact ps_ret (g.slot h)
theorem ps_sbrk  {sc : Scope} {st : Stmt} {E : XK} {X : Cx} (g : Gd N fnm Φ XR CX lv E false sc X) (h : chS N fnm (.brk ) sc st = true) : PS X st (tS X.K XR Φ E (.brk )) := by
  cases st <;> try (simp [chS] at h; done)
  exact ps_break
theorem ps_scont  {sc : Scope} {st : Stmt} {E : XK} {X : Cx} (g : Gd N fnm Φ XR CX lv E false sc X) (h : chS N fnm (.cont ) sc st = true) : PS X st (tS X.K XR Φ E (.cont )) := by
  cases st <;> try (simp [chS] at h; done)
  exact ps_continue
theorem ps_spass  {sc : Scope} {st : Stmt} {E : XK} {X : Cx} (g : Gd N fnm Φ XR CX lv E false sc X) (h : chS N fnm (.pass ) sc st = true) : PS X st (tS X.K XR Φ E (.pass )) := by
  cases st <;> try (simp [chS] at h; done)
  exact ps_pass
theorem ps_sfrz (i : Nat) {sc : Scope} {st : Stmt} {E : XK} {X : Cx} (g : Gd N fnm Φ XR CX lv E false sc X) (h : chS N fnm (.frz i) sc st = true) : PS X st (tS X.K XR Φ E (.frz i)) := by simp [chS] at h
theorem ps_sapop (i j : Nat) (k : C) {sc : Scope} {st : Stmt} {E : XK} {X : Cx} (g : Gd N fnm Φ XR CX lv E false sc X) (h : chS N fnm (.apop i j k) sc st = true) : PS X st (tS X.K XR Φ E (.apop i j k)) := by
  cases st <;> try (simp [chS] at h; done)
  rename_i v p
  simp only [chS] at h
  unfold chApop at h
  split at h
  rotate_left
  · cases h
  rename_i r rp m ap a cp e1
  split at h
  rotate_left
  · cases h
  rename_i r2 rp2 m2 ap2 a2 cp2 e2
  obtain ⟨rfl, h6⟩ := unMeth_inv e1
  obtain ⟨ea, h7⟩ := unMeth_inv e2
  simp only at ea h6 h7
  subst ea
  simp only [Bool.and_eq_true, decide_eq_true_eq] at h
  obtain ⟨⟨⟨⟨rfl, rfl⟩, h3⟩, h4⟩, h5⟩ := h
  have st := chE_star h5
  have inner := pe_bm (o := .Name r2 rp2) PySem.F.plainAttrs_list PySem.F.slot_list_pop PySem.F.type_list_pop mt_popAt (g.slot h4) (pa_cons (peE k g.zero h5) pa_nil (star_of st)) rfl (few st) h7 (star_of st) rfl
  exact ps_expr (pe_bm (o := .Name r rp) PySem.F.plainAttrs_list PySem.F.slot_list_append PySem.F.type_list_append mt_append (g.slot h3) (pa_cons inner pa_nil rfl) rfl rfl h6 rfl rfl) rfl
theorem ps_seach (i gi : Nat) (e : C) {sc : Scope} {st : Stmt} {E : XK} {X : Cx} (g : Gd N fnm Φ XR CX lv E false sc X) (h : chS N fnm (.each i gi e) sc st = true) : PS X st (tS X.K XR Φ E (.each i gi e)) := by
  cases st <;> try (simp [chS] at h; done)
  rename_i t x b o p
  cases o <;> try (simp [chS] at h; done)
  simp only [chS] at h
  unfold chEach at h
  split at h
  rotate_left
  · cases h
  rename_i r rp v vp
  simp only [Bool.and_eq_true] at h
  obtain ⟨⟨h1, h2⟩, h⟩ := h
  split at h
  rotate_left
  · cases h
  rename_i r2 rp2 m ap a cp e1
  obtain ⟨rfl, h6⟩ := unMeth_inv e1
  simp only at h6
  simp only [Bool.and_eq_true, decide_eq_true_eq] at h
  obtain ⟨⟨rfl, h4⟩, h5⟩ := h
  have st := chE_star h5
  have body := ps_expr (pos := vp) (pe_bm (o := .Name r2 rp2) PySem.F.plainAttrs_list PySem.F.slot_list_append PySem.F.type_list_append mt_append (g.slot h4) (pa_cons (peE e g.zero h5) pa_nil (star_of st)) rfl (few st) h6 (star_of st) rfl) rfl
  exact ps_for g.po g.calm (pi_seq (g.slot h1)) (g.tgN h2) (pss_cons body pss_nil) (folded rfl)
mutual
theorem psS : ∀ (s : EV.S) {sc : Scope} {st : Stmt} {E : XK} {X : Cx}, Gd N fnm Φ XR CX lv E false sc X → chS N fnm s sc st = true → PS X st (tS X.K XR Φ E s)
  | .asg t0 e, sc, st, E, X, g, h => ps_sasg t0 e g h
  | .mvs i j, sc, st, E, X, g, h => ps_smvs i j g h
  | .aug i n e, sc, st, E, X, g, h => ps_saug i n e g h
  | .app i path e, sc, st, E, X, g, h => ps_sapp i path e g h
  | .put i path k e, sc, st, E, X, g, h => ps_sput i path k e g h
  | .augp i path k n e, sc, st, E, X, g, h => ps_saugp i path k n e g h
  | .expr e, sc, st, E, X, g, h => ps_sexpr e g h
  | .ife t a b, sc, st, E, X, g, h => by
    cases st <;> try (simp [chS] at h; done)
    simp only [chS, Bool.and_eq_true] at h
    exact ps_if (peT t g h.1.1) (psSs a g h.1.2) (psSs b g h.2)
  | .whl n t b, sc, st, E, X, g, h => by
    cases st <;> try (simp [chS] at h; done)
    rename_i e x y p
    cases y <;> try (simp [chS] at h; done)
    simp only [chS, Bool.and_eq_true] at h
    exact ps_while g.po (peT t g h.1) (psSs b g h.2)
  | .fr it tg b, sc, st, E, X, g, h => by
    cases st <;> try (simp [chS] at h; done)
    rename_i t e x y p
    cases y <;> try (simp [chS] at h; done)
    simp only [chS, Bool.and_eq_true] at h
    exact ps_for g.po g.calm (peI it g h.1.1) (g.tg h.1.2) (psSs b g h.2) (folded (chI_set h.1.1))
  | .ret e, sc, st, E, X, g, h => ps_sret e g h
  | .retn , sc, st, E, X, g, h => ps_sretn  g h
  | .retmv i, sc, st, E, X, g, h => ps_sretmv i g h
  | .brk , sc, st, E, X, g, h => ps_sbrk  g h
  | .cont , sc, st, E, X, g, h => ps_scont  g h
  | .pass , sc, st, E, X, g, h => ps_spass  g h
  | .frz i, sc, st, E, X, g, h => ps_sfrz i g h
  | .apop i j k, sc, st, E, X, g, h => ps_sapop i j k g h
  | .each i gi e, sc, st, E, X, g, h => ps_seach i gi e g h
theorem psSs : ∀ (ss : Ss) {sc : Scope} {sts : List Stmt} {E : XK} {X : Cx}, Gd N fnm Φ XR CX lv E false sc X → chSs N fnm ss sc sts = true → PSs X sts (tSs X.K XR Φ E ss)
  | .nil, sc, sts, E, X, g, h => by
    cases sts <;> try (simp [chSs] at h; done)
    exact pss_nil
  | .cons s ss, sc, sts, E, X, g, h => by
    rcases chSs_inv h with ⟨i, e, h2⟩ | ⟨st, sts', e, h1, h2⟩
    · have r := psSs ss g h2
      have e2 : tS X.K XR Φ E s = tNext := by rw [e]; rfl
      show PSs X sts (tSeq (tS X.K XR Φ E s) (tSs X.K XR Φ E ss))
      rw [e2]
      exact r
    · rw [e]
      exact pss_cons (psS s g h1) (psSs ss g h2)
end
end EV
namespace EV
open PySem PySem.Spec PyProof.Rows L2
/-! ### defs -/
structure DR where
  name : Str
  ps : List Str
  N : List Str
  body : Ss
/-- what the defs do: the newest first; each knows those behind it -/
noncomputable def tabR : List DR → Nat → FD
  | [], _ => ⟨0, fun _ => .st⟩
  | d :: r, i => if i = r.length then ⟨d.ps.length, fun ds => noEx (runF (tabR r) d.N.length d.body ds)⟩ else tabR r i
def nmR : List DR → Nat → Option Str
  | [], _ => none
  | d :: r, i => if i = r.length then some d.name else nmR r i
def scopeB (N ps : List Str) (sc : Scope) : Bool :=
  (match sc.kind with | .function => true | _ => false) && !sc.isCoroutine && !sc.isGenerator && decide N.Nodup && decide (N.take ps.length = ps) &&
    (ps.all fun x => decide (sc.names.lookup x = some .local) || decide (sc.names.lookup x = some .cell)) && (sc.names.all fun y => decide (y.2 ≠ .free))
theorem scopeB_ok {N ps : List Str} {sc : Scope} (h : scopeB N ps sc = true) : FnScope N ps sc := by
  simp only [scopeB, Bool.and_eq_true, Bool.not_eq_true', decide_eq_true_eq, List.all_eq_true, Bool.or_eq_true] at h
  obtain ⟨⟨⟨⟨⟨⟨h1, h2⟩, h3⟩, h4⟩, h5⟩, h6⟩, h7⟩ := h
  refine ⟨?_, h2, h3, h4, h5, h6, h7⟩
  split at h1
  · assumption
  · cases h1
/-- each body is the skeleton of its def -/
def okR : List DR → List Stmt → Bool
  | [], [] => true
  | d :: r, st :: sts => scopeB d.N d.ps (defScope st) && chSs d.N (nmR r) d.body (defScope st) (defBody st) && okR r sts
  | _, _ => false
theorem at_start {ds : List D} {n i : Nat} {d : D} (e : (ds.map some ++ List.replicate n (none : Option D))[i]? = some (some d)) : ds[i]? = some d := by
  by_cases h : i < ds.length
  · rw [List.getElem?_append_left (by simpa using h), List.getElem?_map] at e
    cases h2 : ds[i]? with
    | none => rw [h2] at e; cases e
    | some d' => rw [h2] at e; cases e; rfl
  · rw [List.getElem?_append_right (by simpa using h), List.getElem?_replicate] at e
    split at e <;> cases e
theorem At.start {K : PySem.W.Frag} {S H : Hp} {ds : List D} {vs : List V} {N : List Str} (s : Same S H) (o : Owns K S H ds vs []) (z : isZs ds = true) :
    At K S H S S H (L2.start N vs) (ds.map some ++ List.replicate (N.length - ds.length) none) (fun _ => []) := by
  have l := Owns.length ds vs [] o
  have zi : ∀ (ds : List D) (i : Nat) (d : D), isZs ds = true → ds[i]? = some d → isZ d = true := fun ds => by
    induction ds with
    | nil => intro i d _ e; simp at e
    | cons x xs ih =>
      intro i d z e
      simp only [isZs, Bool.and_eq_true] at z
      cases i with
      | zero => simp at e; subst e; exact z.1
      | succ i => exact ih i d z.2 (by simpa using e)
  refine ⟨⟨s, by simp [L2.start, l], fun i d e => ?_, fun _ _ => rfl, fun _ => List.nodup_nil, (fun _ _ _ _ z => nomatch z), (fun _ _ z => nomatch z)⟩, Fut.refl s, Same.refl _, (fun _ _ z => nomatch z), fun i d e => ?_⟩
  rotate_left
  · exact isZ_clean d (zi ds i d z (at_start e))
  have hd : ds[i]? = some d := at_start e
  obtain ⟨v, B1, B2, B3, h1, h2, h3⟩ := Owns.get ds vs [] i d o hd
  have : B2 = [] := by
    have := h2.symm
    simp at this
    exact this.2.1
  subst this
  refine ⟨v, ?_, h3⟩
  have hl : i < vs.length := (List.getElem?_eq_some_iff.mp h1).1
  unfold L2.start
  rw [List.getElem?_append_left (by simpa using hl), List.getElem?_map, h1]; rfl
section
variable {P : Program} {w : World} {K : PySem.W.Frag} {mg : Str → Option Value} {base : Heap} {XR : Exc → Value → Option Addr → Hp → Prop}
def biNames : List Str := ["len", "abs", "int", "list", "tuple", "sorted", "isinstance", "range", "bool", "str", "min"]
/-- one def -/
theorem def_ok {x : Str} {st : Stmt} {f : Addr} {fd : FuncData} {N ps : List Str} {fnm : Nat → Option Str} {Φ : Nat → FD} {lv : Nat} {body : Ss} (F : Fun K x x st f fd) (hS : scopeB N ps (defScope st) = true) (hb : chSs N fnm body (defScope st) (defBody st) = true)
    (bi : ∀ y ∈ biNames, mg y = none) (fns : ∀ g y, fnm g = some y → ∃ a fd ps k, k ≤ lv ∧ FnOk P w K mg base CX0 k a fd ps (spF K XR (Φ g).n (Φ g).sem) ∧ mg y = some (.ref a) ∧ PySem.W.keepIn K (.ref a) = true ∧ Binds K fd ps []) :
    FnOk P w K mg base CX0 (lv + 1) f fd ps (spF K XR ps.length fun ds => noEx (runF Φ N.length body ds)) := by
  have S := scopeB_ok hS
  refine F.ok S (fun vs H Q E h => h.1) (fun cdv A outer s H vs Q E hr h => ?_)
  obtain ⟨hl, S0, ds, sm, ow, z, k⟩ := h
  have g : Gd N fnm Φ XR CX0 lv E0' false (defScope st) (cxOf CX0 P w K mg base N x (defScope st) f cdv A outer s H E).nox :=
    ⟨rfl, S.nd, rfl, S.kind, rfl, hr, fun _ _ => rfl, PassesOwn.never, fun _ _ _ _ _ _ _ h => h.elim, fun _ _ _ _ _ _ _ h => h.elim, fun _ _ _ _ _ h => h, bi, fns⟩
  refine ⟨_, psSs body g hb, ?_⟩
  refine corSs (L := S0) E0' body (At.start sm ow z) ?_
  simp only [runF] at k
  cases e : evSs Φ body (ds.map some ++ List.replicate (N.length - ds.length) none) with
  | st => rw [e] at k; exact k.elim
  | ex x => rw [e] at k; exact k.elim
  | ok o =>
    rw [e] at k
    cases o with
    | nx env => exact fun σ S H As a => KE.non k a.fut
    | rt d => exact k
    | bk env => exact k.elim
    | ct env => exact k.elim
/-- all defs of a text -/
theorem all_ok : ∀ (l : List DR) (sts : List Stmt), okR l sts = true → (∀ y ∈ biNames, mg y = none) →
    (∀ (i : Nat) (d : DR) (st : Stmt), l[i]? = some d → sts[i]? = some st → ∃ f fd, Fun K d.name d.name st f fd ∧ mg d.name = some (.ref f) ∧ Binds K fd d.ps []) →
    ∀ g y, nmR l g = some y → ∃ a fd ps k, k ≤ l.length ∧ FnOk P w K mg base CX0 k a fd ps (spF K XR (tabR l g).n (tabR l g).sem) ∧ mg y = some (.ref a) ∧ PySem.W.keepIn K (.ref a) = true ∧ Binds K fd ps []
  | [], sts, _, _, _, g, y, h => by simp [nmR] at h
  | d :: r, [], h, _, _, _, _, _ => by simp [okR] at h
  | d :: r, st :: sts, h, bi, facts, g, y, hg => by
    simp only [okR, Bool.and_eq_true] at h
    have ih := all_ok r sts h.2 bi fun i d st h1 h2 => facts (i + 1) d st (by simpa using h1) (by simpa using h2)
    simp only [nmR] at hg
    by_cases e : g = r.length
    · rw [if_pos e] at hg
      cases hg
      obtain ⟨f, fd, F, m, b⟩ := facts 0 d st rfl rfl
      have key := def_ok (P := P) (w := w) (base := base) (XR := XR) (Φ := tabR r) (lv := r.length) F h.1.1 h.1.2 bi ih
      refine ⟨f, fd, d.ps, r.length + 1, Nat.le_refl _, ?_, m, F.kp, b⟩
      simp only [tabR, e, if_true]
      exact key
    · rw [if_neg e] at hg
      obtain ⟨a, fd, ps, k, hk, F, m, kp, b⟩ := ih g y hg
      refine ⟨a, fd, ps, k, Nat.le_succ_of_le hk, ?_, m, kp, b⟩
      simp only [tabR, e, if_false]
      exact F
/-- a law's promise: at most 63 ints are handed in, True comes out -/
def spLaw (K : PySem.W.Frag) : Sp := fun vs H Q _ => ∃ (a : Addr) (ns : List Int), vs = [.ref a] ∧ SqL K H a (ns.map V.int) ∧ ns.length ≤ 63 ∧ ∀ H', Q (.bl true) H'
theorem law_imp {sem : List D → R D} (h1 : ∀ ns : List Int, ns.length ≤ 63 → sem [.scr ns] = .ok (.bl true)) (h2 : ∀ ns : List Int, ns.length ≤ 63 → sem [.lst .z (ns.map .int)] = .ok (.bl true)) :
    ∀ vs H Q E, spLaw K vs H Q E → spF K XR 1 sem vs H Q E := by
  rintro vs H Q E ⟨a, ns, rfl, hs, hl, k⟩
  refine ⟨rfl, ?_⟩
  have own1 : ∀ b o, (fun c => if c = a then H a else none : Hp) b = some o → H b = some o := fun b o e => by
    dsimp only at e
    split at e
    · rename_i h; rw [h]; exact e
    · cases e
  have at_a : (fun c => if c = a then H a else none : Hp) a = H a := by simp
  rcases hs with (hs | ⟨o, hs⟩) | hs
  · refine ⟨fun c => if c = a then H a else none, [.lst .z (ns.map .int)], own1, ⟨.ref a, [], [], [], rfl, rfl, ⟨rfl, a, ns.map V.int, rfl, at_a.trans hs, owns_ints ns⟩, rfl, rfl⟩, ?_, ?_⟩
    · have : ∀ ns : List Int, isZs (ns.map .int) = true := fun ns => by
        induction ns with
        | nil => rfl
        | cons n ns ih => simpa [isZs, isZ] using ih
      simp [isZs, isZ, this ns]
    · rw [h2 ns hl]
      exact fun v S' H' B f o r => by rw [o.1]; exact k H'
  · refine ⟨fun c => if c = a then H a else none, [.scr ns], own1, ⟨.ref a, [], [], [], rfl, rfl, ⟨rfl, a, rfl, .inl ⟨o, at_a.trans hs⟩⟩, rfl, rfl⟩, rfl, ?_⟩
    rw [h1 ns hl]
    exact fun v S' H' B f o r => by rw [o.1]; exact k H'
  · refine ⟨fun _ => none, [.scr ns], (fun _ _ e => nomatch e), ⟨.ref a, [], [], [], rfl, rfl, ⟨rfl, a, rfl, .inr fun H => .inr hs⟩, rfl, rfl⟩, rfl, ?_⟩
    rw [h1 ns hl]
    exact fun v S' H' B f o r => by rw [o.1]; exact k H'
end
end EV
namespace EV
open PySem PySem.Spec PyProof.Rows L2
/-! ### what the head tells of a text of defs -/
def fnD (ds : List DR) (sts : List Stmt) : List He.DefD := (ds.zip sts).map fun p => { at_ := (p.1.name, none), name := p.1.name, qual := p.1.name, params := defArgs p.2, body := defBody p.2, scope := defScope p.2 }
def faD (ds : List DR) : List He.Fa := (ds.map fun d => .glo d.name) ++ biNames.map .free
section
variable {K : PySem.W.Frag} {h : Heap} {mg : Str → Option Value}
theorem said_free {ds : List DR} {sts : List Stmt} (c : He.SaysD (faD ds) (fnD ds sts) K) (X : K.In h) (G : h.Ns mainGlobals mg) : ∀ y ∈ biNames, mg y = none := fun y hy =>
  He.free_ok X G (c.facts (f := .free y) (List.mem_append_right _ (List.mem_map_of_mem hy)))
theorem said_def {ds : List DR} {sts : List Stmt} (c : He.SaysD (faD ds) (fnD ds sts) K) (X : K.In h) (G : h.Ns mainGlobals mg) {i : Nat} {d : DR} {st : Stmt} (h1 : ds[i]? = some d) (h2 : sts[i]? = some st) :
    ∃ f fd, Fun K d.name d.name st f fd ∧ mg d.name = some (.ref f) := by
  have hz : (ds.zip sts)[i]? = some (d, st) := by
    rw [List.getElem?_zip_eq_some]; exact ⟨h1, h2⟩
  obtain ⟨fd, F⟩ := c.defs (d := { at_ := (d.name, none), name := d.name, qual := d.name, params := defArgs st, body := defBody st, scope := defScope st }) (List.mem_map.mpr ⟨_, List.mem_of_getElem? hz, rfl⟩)
  exact ⟨_, fd, He5.fun_of F, He.glo_ok X G (c.facts (f := .glo d.name) (List.mem_append_left _ (List.mem_map_of_mem (List.mem_of_getElem? h1))))⟩
end
section
variable {P : Program} {w : World} {K : PySem.W.Frag} {mg : Str → Option Value} {base : Heap} {XR : Exc → Value → Option Addr → Hp → Prop}
/-- the text's last def, by what it does -/
theorem law_ok {d : DR} {r : List DR} {st : Stmt} {sts : List Stmt} (h : okR (d :: r) (st :: sts) = true) (bi : ∀ y ∈ biNames, mg y = none)
    (facts : ∀ (i : Nat) (x : DR) (s : Stmt), (d :: r)[i]? = some x → (st :: sts)[i]? = some s → ∃ f fd, Fun K x.name x.name s f fd ∧ mg x.name = some (.ref f) ∧ Binds K fd x.ps []) {f : Addr} {fd : FuncData} (F : Fun K d.name d.name st f fd) :
    FnOk P w K mg base CX0 (r.length + 1) f fd d.ps (spF K XR d.ps.length (tabR (d :: r) r.length).sem) := by
  simp only [okR, Bool.and_eq_true] at h
  have ih := all_ok (P := P) (w := w) (base := base) (XR := XR) r sts h.2 bi fun i x s h1 h2 => facts (i + 1) x s (by simpa using h1) (by simpa using h2)
  have key := def_ok (P := P) (w := w) (base := base) (XR := XR) (Φ := tabR r) (lv := r.length) F h.1.1 h.1.2 bi ih
  simp only [tabR, if_true]
  exact key
end
end EV
namespace EV
open PySem L2
/-! ### what a run must give -/
def Wp {α : Type} (r : R α) (Q : α → Prop) : Prop := ∃ a, r = .ok a ∧ Q a
theorem wp_ok {α : Type} {a : α} {Q : α → Prop} : Wp (.ok a) Q ↔ Q a := ⟨fun ⟨b, e, h⟩ => by cases e; exact h, fun h => ⟨a, rfl, h⟩⟩
theorem wp_bind {α β : Type} {r : R α} {f : α → R β} {Q : β → Prop} : Wp (r.bind f) Q ↔ Wp r fun a => Wp (f a) Q := by
  constructor
  · rintro ⟨b, e, h⟩
    cases r with
    | ok a => exact ⟨a, rfl, b, e, h⟩
    | ex x => cases e
    | st => cases e
  · rintro ⟨a, rfl, h⟩; exact h
def nxQ (f : Env → R Out) (Q : Out → Prop) : Out → Prop
  | .nx env => Wp (f env) Q
  | o => Q o
theorem wp_nx {r : R Out} {f : Env → R Out} {Q : Out → Prop} : Wp (r.nx f) Q ↔ Wp r (nxQ f Q) := by
  unfold R.nx
  rw [wp_bind]
  constructor
  · rintro ⟨o, e, h⟩
    refine ⟨o, e, ?_⟩
    cases o with
    | nx env => exact h
    | _ => exact (wp_ok (Q := Q)).mp h
  · rintro ⟨o, e, h⟩
    refine ⟨o, e, ?_⟩
    cases o with
    | nx env => exact h
    | _ => exact (wp_ok (Q := Q)).mpr h
theorem nxQ_nx {f : Env → R Out} {Q : Out → Prop} {env : Env} : nxQ f Q (.nx env) ↔ Wp (f env) Q := Iff.rfl
theorem nxQ_rt {f : Env → R Out} {Q : Out → Prop} {d : D} : nxQ f Q (.rt d) ↔ Q (.rt d) := Iff.rfl
theorem wp_ite {α : Type} {b : Bool} {x y : R α} {Q : α → Prop} : Wp (if b = true then x else y) Q ↔ (b = true → Wp x Q) ∧ (b = false → Wp y Q) := by
  cases b <;> simp
theorem ok_bind {α β : Type} {a : α} {f : α → R β} : (R.ok a).bind f = f a := rfl
theorem ok_nx {env : Env} {f : Env → R Out} : (R.ok (Out.nx env)).nx f = f env := rfl
theorem ok_rt {d : D} {f : Env → R Out} : (R.ok (Out.rt d)).nx f = R.ok (.rt d) := rfl
theorem wp_if {α : Type} {p : Prop} [Decidable p] {x y : R α} {Q : α → Prop} : Wp (if p then x else y) Q ↔ (p → Wp x Q) ∧ (¬p → Wp y Q) := by
  by_cases h : p <;> simp [h]
theorem wp_imp {α : Type} {r : R α} {Q Q' : α → Prop} (h : Wp r Q) (k : ∀ a, Q a → Q' a) : Wp r Q' := by
  obtain ⟨a, e, q⟩ := h
  exact ⟨a, e, k a q⟩
theorem wp_noEx {α : Type} {r : R α} {Q : α → Prop} : Wp (noEx r) Q ↔ Wp r Q := by
  constructor
  · rintro ⟨a, e, h⟩
    cases r with
    | ok b => exact ⟨a, e, h⟩
    | ex x => cases e
    | st => cases e
  · rintro ⟨a, rfl, h⟩; exact ⟨a, rfl, h⟩
theorem wp_of {α : Type} {o : Option α} {Q : α → Prop} : Wp (R.of o) Q ↔ ∃ a, o = some a ∧ Q a := by
  constructor
  · rintro ⟨a, e, h⟩
    cases o with
    | none => cases e
    | some b => cases e; exact ⟨_, rfl, h⟩
  · rintro ⟨a, rfl, h⟩; exact ⟨a, rfl, h⟩
theorem wp_eq {α : Type} {r : R α} {a : α} (h : Wp r fun b => b = a) : r = .ok a := by
  obtain ⟨b, e, rfl⟩ := h; exact e
def Post (I : Nat → Env → Prop) (n : Nat) (o : Out) : Prop := ∃ e', (o = .nx e' ∨ o = .ct e') ∧ I n e'
theorem post_nx {I : Nat → Env → Prop} {n : Nat} {e : Env} (h : I n e) : Post I n (.nx e) := ⟨e, .inl rfl, h⟩
/-- a loop by its invariant -/
theorem wp_for {body : D → Env → R Out} {ds : List D} {env : Env} {Q : Out → Prop} (I : Nat → Env → Prop) (h0 : I 0 env)
    (hs : ∀ i d e, ds[i]? = some d → I i e → Wp (body d e) (Post I (i + 1))) (hq : ∀ e, I ds.length e → Q (.nx e)) : Wp (forL body ds env) Q := by
  induction ds generalizing env I with
  | nil => exact ⟨_, rfl, hq _ h0⟩
  | cons d ds ih =>
    unfold forL
    rw [wp_bind]
    refine wp_imp (hs 0 d env rfl h0) ?_
    rintro o ⟨e', rfl | rfl, h1⟩
    · exact ih (fun i e => I (i + 1) e) h1 (fun i x e hx hi => hs (i + 1) x e (by simpa using hx) hi) hq
    · exact ih (fun i e => I (i + 1) e) h1 (fun i x e hx hi => hs (i + 1) x e (by simpa using hx) hi) hq
def Down (I : Nat → Env → Prop) (k : Nat) (o : Out) : Prop := ∃ e' k', o = .nx e' ∧ k' < k ∧ I k' e'
theorem down_nx {I : Nat → Env → Prop} {k : Nat} {e : Env} (k' : Nat) (h : k' < k) (i : I k' e) : Down I k (.nx e) := ⟨e, k', rfl, h, i⟩
theorem wp_while {test : Env → R Bool} {body : Env → R Out} {n : Nat} {env : Env} {Q : Out → Prop} (I : Nat → Env → Prop) {m : Nat} (hm : m < n) (h0 : I m env)
    (hs : ∀ k e, I k e → Wp (test e) fun b => if b = true then Wp (body e) (Down I k) else Q (.nx e)) : Wp (whileN test body n env) Q := by
  induction n generalizing m env with
  | zero => exact absurd hm (Nat.not_lt_zero _)
  | succ n ih =>
    unfold whileN
    rw [wp_bind]
    refine wp_imp (hs m env h0) ?_
    intro b hb
    cases b with
    | false => exact ⟨_, rfl, hb⟩
    | true =>
      show Wp (R.bind _ _) Q
      rw [wp_bind]
      refine wp_imp hb ?_
      rintro o ⟨e', k', rfl, hk, h1⟩
      exact ih (m := k') (by omega) h1
/-- a comprehension by a function -/
theorem compL_eq {α : Type} {turn : D → R (Option D)} {f : α → D} {g : α → Option D} : ∀ (xs : List α) (acc : List D), (∀ x ∈ xs, turn (f x) = .ok (g x)) → (∀ x ∈ xs, ∀ d, g x = some d → clean d = true) → acc.length + xs.length ≤ sizeLine →
    compL turn (xs.map f) acc = .ok (acc ++ xs.filterMap g)
  | [], acc, _, _, _ => by simp [compL]
  | x :: xs, acc, h1, h2, h3 => by
    rw [List.map_cons, compL, h1 x (by simp)]
    have h3' : acc.length + (xs.length + 1) ≤ sizeLine := by simpa using h3
    cases e : g x with
    | none =>
      show compL turn (xs.map f) acc = _
      rw [compL_eq xs acc (fun y hy => h1 y (by simp [hy])) (fun y hy => h2 y (by simp [hy])) (by omega), List.filterMap_cons, e]
    | some d =>
      show (if clean d && decide (acc.length < sizeLine) then compL turn (xs.map f) (acc ++ [d]) else R.st) = _
      have hl : acc.length < sizeLine := by omega
      rw [if_pos (by rw [h2 x (by simp) d e, decide_eq_true hl]; rfl), compL_eq xs (acc ++ [d]) (fun y hy => h1 y (by simp [hy])) (fun y hy => h2 y (by simp [hy])) (by simp; omega), List.filterMap_cons, e]
      simp
/-! ### lists of ints, of pairs, of lists -/
def li (L : List Int) : List D := L.map .int
def pr (T : List (Int × Int)) : List D := T.map fun t => .tup [.int t.1, .int t.2]
def ll (f : Fl) (G : List (List Int)) : List D := G.map fun g => .lst f (li g)
theorem li_len {L : List Int} : (li L).length = L.length := List.length_map ..
theorem pr_len {L : List (Int × Int)} : (pr L).length = L.length := List.length_map ..
theorem ll_len {f : Fl} {L : List (List Int)} : (ll f L).length = L.length := List.length_map ..
theorem li_app {L : List Int} {x : Int} : li L ++ [.int x] = li (L ++ [x]) := by simp [li]
theorem pr_app {L : List (Int × Int)} {x y : Int} : pr L ++ [.tup [.int x, .int y]] = pr (L ++ [(x, y)]) := by simp [pr]
theorem ll_app {f : Fl} {L : List (List Int)} {x : List Int} : ll f L ++ [.lst f (li x)] = ll f (L ++ [x]) := by simp [ll]
theorem li_zz : ∀ L : List Int, zzs (li L) = li L
  | [] => rfl | x :: L => congrArg (D.int x :: ·) (li_zz L)
theorem li_bb : ∀ L : List Int, bbs (li L) = li L
  | [] => rfl | x :: L => congrArg (D.int x :: ·) (li_bb L)
theorem li_taint : ∀ L : List Int, taints (li L) = li L
  | [] => rfl | x :: L => congrArg (D.int x :: ·) (li_taint L)
theorem li_clean : ∀ L : List Int, cleans (li L) = true
  | [] => rfl | x :: L => li_clean L
theorem li_z : ∀ L : List Int, isZs (li L) = true
  | [] => rfl | x :: L => li_z L
theorem pr_zz : ∀ L : List (Int × Int), zzs (pr L) = pr L
  | [] => rfl | x :: L => congrArg (D.tup [.int x.1, .int x.2] :: ·) (pr_zz L)
theorem pr_bb : ∀ L : List (Int × Int), bbs (pr L) = pr L
  | [] => rfl | x :: L => congrArg (D.tup [.int x.1, .int x.2] :: ·) (pr_bb L)
theorem pr_taint : ∀ L : List (Int × Int), taints (pr L) = pr L
  | [] => rfl | x :: L => congrArg (D.tup [.int x.1, .int x.2] :: ·) (pr_taint L)
theorem pr_clean : ∀ L : List (Int × Int), cleans (pr L) = true
  | [] => rfl | x :: L => pr_clean L
theorem pr_z : ∀ L : List (Int × Int), isZs (pr L) = true
  | [] => rfl | x :: L => pr_z L
theorem ll_zz (f : Fl) : ∀ L : List (List Int), zzs (ll f L) = ll .z L
  | [] => rfl | x :: L => by
    show D.lst .z (zzs (li x)) :: zzs (ll f L) = _
    rw [li_zz, ll_zz f L]; rfl
theorem ll_bb (f : Fl) : ∀ L : List (List Int), bbs (ll f L) = ll f.bb L
  | [] => rfl | x :: L => by
    show D.lst f.bb (bbs (li x)) :: bbs (ll f L) = _
    rw [li_bb, ll_bb f L]; rfl
theorem ll_taint (f : Fl) : ∀ L : List (List Int), taints (ll f L) = ll f.tt L
  | [] => rfl | x :: L => by
    show D.lst f.tt (taints (li x)) :: taints (ll f L) = _
    rw [li_taint, ll_taint f L]; rfl
theorem ll_cleanO : ∀ L : List (List Int), cleans (ll .o L) = true
  | [] => rfl | x :: L => by
    show ((true && cleans (li x)) && cleans (ll .o L)) = true
    rw [li_clean, ll_cleanO L]; rfl
theorem ll_cleanZ : ∀ L : List (List Int), cleans (ll .z L) = true
  | [] => rfl | x :: L => by
    show ((true && cleans (li x)) && cleans (ll .z L)) = true
    rw [li_clean, ll_cleanZ L]; rfl
theorem ll_z : ∀ L : List (List Int), isZs (ll .z L) = true
  | [] => rfl | x :: L => by
    show ((true && isZs (li x)) && isZs (ll .z L)) = true
    rw [li_z, ll_z L]; rfl
theorem li_get {L : List Int} {i : Nat} : (li L)[i]? = (L[i]?).map .int := List.getElem?_map ..
theorem pr_get {L : List (Int × Int)} {i : Nat} : (pr L)[i]? = (L[i]?).map fun t => .tup [.int t.1, .int t.2] := List.getElem?_map ..
theorem ll_get {f : Fl} {L : List (List Int)} {i : Nat} : (ll f L)[i]? = (L[i]?).map fun g => .lst f (li g) := List.getElem?_map ..
/-! ### comparisons -/
theorem toPs_li : ∀ L : List Int, toPs (li L) = some (L.map .int)
  | [] => rfl | x :: L => by
    show (match toP (.int x), toPs (li L) with | some p, some ps => some (p :: ps) | _, _ => none) = _
    rw [toPs_li L]; rfl
theorem toPs_pr : ∀ L : List (Int × Int), toPs (pr L) = some (L.map fun t => .tuple [.int t.1, .int t.2])
  | [] => rfl | x :: L => by
    show (match toP (.tup [.int x.1, .int x.2]), toPs (pr L) with | some p, some ps => some (p :: ps) | _, _ => none) = _
    rw [toPs_pr L]; rfl
theorem toPs_ll (f : Fl) : ∀ L : List (List Int), toPs (ll f L) = some (L.map fun g => .list (g.map .int))
  | [] => rfl | x :: L => by
    show (match (toPs (li x)).map PyData.list, toPs (ll f L) with | some p, some ps => some (p :: ps) | _, _ => none) = _
    rw [toPs_ll f L, toPs_li]; rfl
theorem toPs_bs : ∀ L : List Bool, toPs (L.map .bl) = some (L.map .bool)
  | [] => rfl | x :: L => by
    show (match toP (.bl x), toPs (L.map .bl) with | some p, some ps => some (p :: ps) | _, _ => none) = _
    rw [toPs_bs L]; rfl
theorem lay_all {α : Type} (f : α → PyData) (h : ∀ x, (f x).canLay0 = true) : ∀ L : List α, PyData.canLayAll0 (L.map f) = true
  | [] => rfl | x :: L => by
    show (PyData.canLay0 (f x) && PyData.canLayAll0 (L.map f)) = true
    rw [h x, lay_all f h L]; rfl
theorem dep_all {α : Type} (f : α → PyData) (n : Nat) (h : ∀ x, (f x).depth ≤ n) : ∀ L : List α, PyData.depthAll (L.map f) ≤ n
  | [] => by simp [PyData.depthAll]
  | x :: L => by
    have := dep_all f n h L
    have := h x
    simp only [List.map_cons, PyData.depthAll]; omega
theorem shaped_l {α : Type} (f : α → PyData) (h : ∀ x, (f x).canLay0 = true) (n : Nat) (hn : n ≤ 63) (h2 : ∀ x, (f x).depth ≤ n) (L : List α) : SeqAt.shaped (.list (L.map f)) = true := by
  have h3 := dep_all f n h2 L
  refine Bool.and_eq_true_iff.mpr ⟨?_, decide_eq_true ?_⟩
  · simp only [PyData.canLay0, lay_all f h L]
  · simp only [PyData.depth]; omega
theorem sh_int (x : Int) : SeqAt.shaped (.int x) = true := by simp [SeqAt.shaped, PyData.canLay0, PyData.depth]
theorem sh_li (L : List Int) : SeqAt.shaped (.list (L.map .int)) = true := shaped_l _ (fun x => by simp [PyData.canLay0]) 1 (by decide) (fun x => by simp [PyData.depth]) L
theorem sh_bs (L : List Bool) : SeqAt.shaped (.list (L.map .bool)) = true := shaped_l _ (fun x => by simp [PyData.canLay0]) 1 (by decide) (fun x => by simp [PyData.depth]) L
theorem sh_pr (L : List (Int × Int)) : SeqAt.shaped (.list (L.map fun t => .tuple [.int t.1, .int t.2])) = true := shaped_l _ (fun x => by simp [PyData.canLay0, PyData.canLayAll0]) 4 (by decide) (fun x => by simp [PyData.depth, PyData.depthAll]) L
theorem sh_ll (L : List (List Int)) : SeqAt.shaped (.list (L.map fun g => .list (g.map .int))) = true := shaped_l _ (fun x => by
    simp only [PyData.canLay0]; exact lay_all _ (fun x => by simp [PyData.canLay0]) x) 4 (by decide) (fun x => by
    have := dep_all PyData.int 1 (fun x => by simp [PyData.depth]) x
    simp only [PyData.depth]; omega) L
theorem self_eq {p : PyData} (h : SeqAt.shaped p = true) : PyData.eqv p p = true := SeqAt.eqv_refl p (SeqAt.canLay_of_shaped h)
theorem dIn_li {x : Int} {f : Fl} {L : List Int} : dIn (.int x) (.lst f (li L)) = some (decide (x ∈ L)) := by
  show (match toP (.int x), toPs (li L) with
    | some p, some ps => if SeqAt.shaped p && SeqAt.shaped (.list ps) then some (ps.any fun z => PyData.eqv z p) else none
    | _, _ => none) = _
  rw [toPs_li]
  show (if SeqAt.shaped (.int x) && SeqAt.shaped (.list (L.map .int)) then some ((L.map PyData.int).any fun z => PyData.eqv z (.int x)) else none) = _
  rw [sh_int, sh_li]
  simp only [Bool.and_self, if_true, Option.some.injEq]
  rw [Bool.eq_iff_iff, List.any_eq_true, decide_eq_true_eq]
  constructor
  · rintro ⟨z, hz, e⟩
    obtain ⟨y, hy, rfl⟩ := List.mem_map.mp hz
    simp only [PyData.eqv, beq_iff_eq] at e
    exact e ▸ hy
  · intro h
    exact ⟨_, List.mem_map_of_mem h, by simp [PyData.eqv]⟩
theorem dEq_li {f g : Fl} {L : List Int} : dEq (.lst f (li L)) (.lst g (li L)) = some true := by
  simp only [dEq, toP, toPs_li, Option.map_some, sh_li, Bool.and_self, if_true, self_eq (sh_li L)]
theorem dEq_pr {f g : Fl} {L : List (Int × Int)} : dEq (.lst f (pr L)) (.lst g (pr L)) = some true := by
  simp only [dEq, toP, toPs_pr, Option.map_some, sh_pr, Bool.and_self, if_true, self_eq (sh_pr L)]
theorem dEq_ll {f g f' g' : Fl} {L : List (List Int)} : dEq (.lst f (ll f' L)) (.lst g (ll g' L)) = some true := by
  simp only [dEq, toP, toPs_ll, Option.map_some, sh_ll, Bool.and_self, if_true, self_eq (sh_ll L)]
theorem dEq_bs {f g : Fl} {L : List Bool} : dEq (.lst f (L.map .bl)) (.lst g (L.map .bl)) = some true := by
  simp only [dEq, toP, toPs_bs, Option.map_some, sh_bs, Bool.and_self, if_true, self_eq (sh_bs L)]
theorem dEq_int {x y : Int} : dEq (.int x) (.int y) = some (decide (x = y)) := by
  simp only [dEq, toP, sh_int, Bool.and_self, if_true, PyData.eqv]
  rw [Option.some.injEq, Bool.eq_iff_iff]; simp
/-! ### single steps -/
theorem intsOf_li : ∀ L : List Int, intsOf (li L) = some L
  | [] => rfl | x :: L => by
    show (intsOf (li L)).map (x :: ·) = _
    rw [intsOf_li L]; rfl
theorem kintsOf_inl : ∀ L : List Int, kintsOf (L.map .inl) = some L
  | [] => rfl | x :: L => by
    show (kintsOf (L.map .inl)).map (x :: ·) = _
    rw [kintsOf_inl L]; rfl

theorem g_0 {d : D} {env : Env} : EV.get (some d :: env) 0 = .ok d := rfl
theorem g_s {x : Option D} {n : Nat} {env : Env} : EV.get (x :: env) (n + 1) = EV.get env n := rfl
theorem s_0 {x : Option D} {d : D} {env : Env} : setTg (.name 0) d (x :: env) = .ok (some d :: env) := rfl
theorem s_s {x : Option D} {n : Nat} {d : D} {env : Env} : setTg (.name (n + 1)) d (x :: env) = (setTg (.name n) d env).bind fun e => .ok (x :: e) := by
  unfold setTg
  by_cases h : n < env.length <;> simp [h, R.bind]
theorem s_t2 {i j : Nat} {x y : D} {env : Env} : setTg (.tup [i, j]) (.tup [x, y]) env = (setTg (.name i) x env).bind fun e => setTg (.name j) y e := by
  show setAll [i, j] [x, y] env = (if decide (i < env.length) = true then R.ok (env.set i (some x)) else R.st).bind fun e => if decide (j < e.length) = true then R.ok (e.set j (some y)) else R.st
  simp only [decide_eq_true_eq]
  unfold setAll
  by_cases h : i < env.length
  · rw [if_pos h, if_pos h, ok_bind]
    unfold setAll setAll
    rfl
  · rw [if_neg h, if_neg h]; rfl
theorem rof_if {α : Type} {p : Prop} [Decidable p] {x : α} : R.of (if p then some x else none) = if p then R.ok x else R.st := by
  by_cases h : p <;> simp [h, R.of]
theorem wp_st {α : Type} {Q : α → Prop} : Wp (R.st) Q ↔ False := ⟨fun ⟨_, e, _⟩ => (nomatch e), False.elim⟩
theorem b_add {i j : Int} : dBin .add (.int i) (.int j) = some (.int (i + j)) := rfl
theorem b_sub {i j : Int} : dBin .sub (.int i) (.int j) = some (.int (i - j)) := rfl
theorem b_mul {i j : Int} : dBin .mul (.int i) (.int j) = if mulOk i j = true then some (.int (i * j)) else none := rfl
theorem b_div {i j : Int} : dBin .fdiv (.int i) (.int j) = if divOk j = true then some (.int (i / j)) else none := rfl
theorem b_mod {i j : Int} : dBin .mod (.int i) (.int j) = if 0 < j then some (.int (i % j)) else none := by
  unfold dBin
  by_cases h : 0 < j <;> simp [h]
theorem b_pow {i j : Int} : dBin .pow (.int i) (.int j) = if powOk i j = true then some (.int (i ^ j.toNat)) else none := rfl
theorem mulOk_r {i j : Int} (h1 : -(2 ^ 64) < j) (h2 : j < 2 ^ 64) : mulOk i j = true := decide_eq_true (.inr ⟨h1, h2⟩)
theorem mulOk_l {i j : Int} (h1 : -(2 ^ 64) < i) (h2 : i < 2 ^ 64) : mulOk i j = true := decide_eq_true (.inl ⟨h1, h2⟩)
theorem divOk_of {j : Int} (h1 : 0 < j) (h2 : j < 1073741824) : divOk j = true := decide_eq_true ⟨h1, h2⟩
theorem c_lt {i j : Int} : dCmp .lt (.int i) (.int j) = some (.bl (decide (i < j))) := rfl
theorem c_le {i j : Int} : dCmp .le (.int i) (.int j) = some (.bl (decide (i ≤ j))) := rfl
theorem c_gt {i j : Int} : dCmp .gt (.int i) (.int j) = some (.bl (decide (j < i))) := rfl
theorem c_ge {i j : Int} : dCmp .ge (.int i) (.int j) = some (.bl (decide (j ≤ i))) := rfl
theorem c_eq {a b : D} : dCmp .eq a b = (dEq a b).map fun r => .bl r := rfl
theorem c_ne {a b : D} : dCmp .ne a b = (dEq a b).map fun r => .bl (!r) := rfl
theorem c_in {a b : D} : dCmp .isin a b = (dIn a b).map fun r => .bl r := rfl
theorem c_ni {a b : D} : dCmp .notin a b = (dIn a b).map fun r => .bl (!r) := rfl
theorem dIn_dic {x : Int} {f : Fl} {ks : List Key} {ds : List D} : dIn (.int x) (.dic f ks ds) = some (lookK ks ds (.inl x)).isSome := rfl
theorem x_lst {f : Fl} {ds : List D} {i : Int} : dIx (.lst f ds) (.int i) = atI ds i := rfl
theorem x_scr {ns : List Int} {i : Int} : dIx (.scr ns) (.int i) = (atI ns i).map .int := rfl
theorem x_dic {f : Fl} {ks : List Key} {ds : List D} {i : Int} : dIx (.dic f ks ds) (.int i) = lookK ks ds (.inl i) := rfl
theorem l_lst {f : Fl} {ds : List D} : dB .len (.lst f ds) = some (.int ds.length) := rfl
theorem l_scr {ns : List Int} : dB .len (.scr ns) = some (.int ns.length) := rfl
theorem l_abs {i : Int} : dB .abs (.int i) = some (.int (if i < 0 then -i else i)) := rfl
theorem l_int {i : Int} : dB .int (.int i) = some (.int i) := rfl
theorem l_list {f : Fl} {ds : List D} : dB .list (.lst f ds) = some (.lst .o ds) := rfl
theorem l_tup {f : Fl} {ds : List D} : dB .tuple (.lst f ds) = if cleans ds = true then some (.tup (zzs ds)) else none := rfl
theorem l_sorted {f : Fl} {L : List Int} : dB .sorted (.lst f (li L)) = some (.lst .o (li (sortI L))) := by
  unfold dB
  simp only [intsOf_li]; rfl
theorem l_sortedk {f : Fl} {L : List Int} {ds : List D} : dB .sorted (.dic f (L.map .inl) ds) = if L.length < 64 then some (.lst .o (li (sortI L))) else none := by
  unfold dB
  simp only [kintsOf_inl]; rfl
theorem i_int {i : Int} : dInt? (.int i) = some i := rfl
theorem q_lst {lv : Bool} {L : List Int} {f : Fl} (h : f ≠ .b) : seqOf lv (.lst f (li L)) = some (li L) := by
  cases f with
  | b => exact absurd rfl h
  | _ => cases lv <;> simp [seqOf, li_clean, li_zz]
theorem q_b {L : List Int} : seqOf true (.lst .b (li L)) = some (li L) := rfl
theorem q_bp {L : List (Int × Int)} : seqOf true (.lst .b (pr L)) = some (pr L) := rfl
theorem q_lstp {lv : Bool} {L : List (Int × Int)} {f : Fl} (h : f ≠ .b) : seqOf lv (.lst f (pr L)) = some (pr L) := by
  cases f with
  | b => exact absurd rfl h
  | _ => cases lv <;> simp [seqOf, pr_clean, pr_zz]
theorem q_tup {lv : Bool} {L : List Int} : seqOf lv (.tup (li L)) = some (li L) := by
  cases lv <;> simp [seqOf, li_z]
theorem q_tupp {lv : Bool} {L : List (Int × Int)} : seqOf lv (.tup (pr L)) = some (pr L) := by
  cases lv <;> simp [seqOf, pr_z]
theorem a_app {ds : List D} {x : D} : appO (.lst .o ds) x = if ds.length < sizeLine then some (.lst .o (ds ++ [x])) else none := rfl
theorem a_put {ks : List Key} {ds : List D} {k : Int} {x : D} : storeO (.dic .o ks ds) (.int k) x = if ks.length < sizeLine then some (.dic .o (putKs ks (.inl k)) (putDs ks ds (.inl k) x)) else none := rfl
theorem t_0 {d e : D} {env : Env} {f : D → Option D} : atO (some d :: env) 0 [] f = (R.of (f d)).bind fun e => .ok (some e :: env) := rfl
theorem t_s {x : Option D} {env : Env} {i : Nat} {ks : List D} {f : D → Option D} : atO (x :: env) (i + 1) ks f = (atO env i ks f).bind fun e => .ok (x :: e) := by
  unfold atO
  rw [g_s]
  cases EV.get env i with
  | ok d =>
    simp only [ok_bind]
    cases R.of ((getO d ks).bind f) <;> rfl
  | ex x => rfl
  | st => rfl
theorem lenOk_of {n : Nat} (h : n ≤ 16777216) : lenOk n = true := decide_eq_true h
theorem if_okp {p : Prop} [Decidable p] {c : Bool} : (if p then R.ok c else R.ok false) = R.ok (decide p && c) := by by_cases h : p <;> simp [h]
theorem if_oko {p : Prop} [Decidable p] {c : Bool} : (if p then R.ok true else R.ok c) = R.ok (decide p || c) := by by_cases h : p <;> simp [h]
theorem noEx_j {α : Type} {a : α} : noEx (R.ok a) = .ok a := rfl
theorem tru_bl {b : Bool} : dTru (.bl b) = some b := rfl
theorem callD_z {f : FD} {ds : List D} (hl : ds.length = f.n) (hz : isZs ds = true) : callD f ds = f.sem ds := by simp [callD, hl, hz]
theorem callD_b {f : FD} {ds : List D} (hl : ds.length = f.n) (hz : isZs ds = false) : callD f ds = (f.sem (zzs ds)).bind fun d => .ok (taint d) := by simp [callD, hl, hz]
theorem range_get {lo : Int} {n i : Nat} {d : D} (h : (rangeD lo n)[i]? = some d) : d = .int (lo + i) ∧ i < n := by
  unfold rangeD at h
  rw [List.getElem?_map] at h
  by_cases h2 : i < n
  · rw [List.getElem?_range h2] at h
    cases h; exact ⟨rfl, h2⟩
  · rw [List.getElem?_eq_none (by simp; omega)] at h
    cases h
theorem range_len {lo : Int} {n : Nat} : (rangeD lo n).length = n := by simp [rangeD]
theorem atI_ok {α : Type} {xs : List α} {i : Int} (h0 : 0 ≤ i) (h1 : i < xs.length) : atI xs i = some (xs[i.toNat]'(by omega)) := by
  unfold atI ixN
  rw [if_pos h0, if_pos h1]
  exact List.getElem?_eq_getElem (by omega)
theorem atI_li {L : List Int} {i : Int} (h0 : 0 ≤ i) (h1 : i < L.length) : ∃ x, x ∈ L ∧ atI (li L) i = some (.int x) := by
  have h2 : i < ((li L).length : Int) := by rw [li_len]; exact h1
  refine ⟨L[i.toNat]'(by omega), List.getElem_mem _, ?_⟩
  rw [atI_ok h0 h2]
  simp [li]
theorem isi_list {f : Fl} {ds : List D} : dIsi "list" (.lst f ds) = some (.bl true) := by
  show (kitB "list" "list").map _ = _
  rw [show kitB "list" "list" = some true by decide +kernel]; rfl
theorem isi_int {i : Int} : dIsi "int" (.int i) = some (.bl true) := by
  show (kitB "int" "int").map _ = _
  rw [show kitB "int" "int" = some true by decide +kernel]; rfl
theorem isi_bool {i : Int} : dIsi "bool" (.int i) = some (.bl false) := by
  show (kitB "int" "bool").map _ = _
  rw [show kitB "int" "bool" = some false by decide +kernel]; rfl
theorem q_ll {lv : Bool} {G : List (List Int)} : seqOf lv (.lst .z (ll .z G)) = some (ll .z G) := by cases lv <;> simp [seqOf, ll_cleanZ, ll_zz]
theorem q_llb {f : Fl} {G : List (List Int)} : seqOf true (.lst .b (ll f G)) = some (ll f G) := rfl
theorem rng_of {i : Int} (h1 : -(2 ^ 62) ≤ i) (h2 : i < 2 ^ 62) : rngOk i = true := rngOk_iff.mpr ⟨h1, h2⟩
theorem it_r1 {Φ : Nat → FD} {lv : Bool} {env : Env} {c : C} {n : Nat} (h : evE Φ c env = .ok (.int n)) (hn : n ≤ 1000000) : evIt Φ (.r1 c) lv env = .ok (rangeD 0 n) := by
  have hr : rngOk (n : Int) = true := rng_of (by omega) (by omega)
  rw [evIt, h, ok_bind, i_int, EV.R.of_some, ok_bind, if_pos hr]
  rfl
/-! ### sorting -/
theorem sortIns_mem {x y : Int} : ∀ {L : List Int}, y ∈ sortIns x L ↔ y = x ∨ y ∈ L
  | [] => by simp [sortIns]
  | z :: L => by
    unfold sortIns
    split
    · simp
    · simp [sortIns_mem (L := L)]
      constructor
      · rintro (h | h | h) <;> simp [h]
      · rintro (h | h | h) <;> simp [h]
theorem sortI_mem {y : Int} : ∀ {L : List Int}, y ∈ sortI L ↔ y ∈ L
  | [] => by simp [sortI]
  | x :: L => by simp [sortI, sortIns_mem, sortI_mem (L := L)]
theorem sortIns_len {x : Int} : ∀ {L : List Int}, (sortIns x L).length = L.length + 1
  | [] => rfl
  | z :: L => by
    unfold sortIns
    split
    · rfl
    · simp [sortIns_len (L := L)]
theorem sortI_len : ∀ {L : List Int}, (sortI L).length = L.length
  | [] => rfl
  | x :: L => by simp [sortI, sortIns_len, sortI_len (L := L)]
theorem sortIns_lt {x : Int} : ∀ {L : List Int}, L.Pairwise (· < ·) → x ∉ L → (sortIns x L).Pairwise (· < ·)
  | [], _, _ => by simp [sortIns]
  | z :: L, h, hx => by
    unfold sortIns
    rw [List.pairwise_cons] at h
    split
    · rename_i hle
      have hz : x < z := by
        have : x ≠ z := fun e => hx (by simp [e])
        omega
      rw [List.pairwise_cons, List.pairwise_cons]
      refine ⟨fun y hy => ?_, h.1, h.2⟩
      rcases List.mem_cons.mp hy with rfl | hy
      · exact hz
      · have := h.1 y hy; omega
    · rename_i hle
      rw [List.pairwise_cons]
      refine ⟨fun y hy => ?_, sortIns_lt h.2 fun hm => hx (by simp [hm])⟩
      rcases sortIns_mem.mp hy with rfl | hy
      · omega
      · exact h.1 y hy
theorem sortI_lt : ∀ {L : List Int}, L.Nodup → (sortI L).Pairwise (· < ·)
  | [], _ => by simp [sortI]
  | x :: L, h => by
    rw [List.nodup_cons] at h
    exact sortIns_lt (sortI_lt h.2) fun hm => h.1 (sortI_mem.mp hm)
end EV
namespace K36
open PySem L2 EV
/-! skeletons of the defs, by program -/
def dr0 : DR := { name := "neighbour_lists", ps := ["points", "ties"], N := ["points", "ties", "around", "one", "other", "point"], body :=
  (.cons (.asg (.name 2) (.dcomp (.seq (.slot 0)) (.name 5) [5] (.slot 5) (.lst .nil))) (.cons (.fr (.seq (.slot 1)) (.tup [3, 4]) (.cons (.ife (.and (.cons (.b (.cmp .isin (.slot 3) (.slot 2))) (.cons (.b (.cmp .isin (.slot 4) (.slot 2))) .nil))) (.cons (.app 2 (.cons (.slot 3) .nil) (.slot 4)) (.cons (.app 2 (.cons (.slot 4) .nil) (.slot 3)) .nil)) .nil) .nil)) (.cons (.retmv 2) .nil))) }
def dr1 : DR := { name := "reached_points", ps := ["around", "start"], N := ["around", "start", "found", "met", "at", "other"], body :=
  (.cons (.asg (.name 2) (.lst (.cons (.slot 1) .nil))) (.cons (.asg (.name 3) (.dic1 (.slot 1) (.bl true))) (.cons (.asg (.name 4) (.int 0)) (.cons (.whl 1000000 (.b (.cmp .lt (.slot 4) (.blt .len (.slot 2)))) (.cons (.fr (.seq (.ix (.slot 0) (.ix (.slot 2) (.slot 4)))) (.name 5) (.cons (.ife (.b (.cmp .notin (.slot 5) (.slot 3))) (.cons (.put 3 .nil (.slot 5) (.bl true)) (.cons (.app 2 .nil (.slot 5)) .nil)) .nil) .nil)) (.cons (.aug 4 false (.int 1)) .nil))) (.cons (.retmv 2) .nil))))) }
def dr2 : DR := { name := "grouped", ps := ["points", "ties"], N := ["points", "ties", "around", "groups", "met", "point", "group", "member"], body :=
  (.cons (.asg (.name 2) (.call 0 (.cons (.slot 0) (.cons (.slot 1) .nil)))) (.cons (.asg (.name 3) (.lst .nil)) (.cons (.asg (.name 4) .dic) (.cons (.fr (.seq (.blt .sorted (.slot 2))) (.name 5) (.cons (.ife (.b (.cmp .notin (.slot 5) (.slot 4))) (.cons (.asg (.name 6) (.call 1 (.cons (.slot 2) (.cons (.slot 5) .nil)))) (.cons (.frz 6) (.cons (.fr (.seq (.slot 6)) (.name 7) (.cons (.put 4 .nil (.slot 7) (.bl true)) .nil)) (.cons (.app 3 .nil (.blt .sorted (.slot 6))) .nil)))) .nil) .nil)) (.cons (.retmv 3) .nil))))) }
def dr3 : DR := { name := "odd_pieces", ps := ["points", "ties"], N := ["points", "ties", "group"], body :=
  (.cons (.ret (.flt (.call 2 (.cons (.slot 0) (.cons (.slot 1) .nil))) 2 (.b (.cmp .eq (.bin .mod (.blt .len (.slot 2)) (.int 2)) (.int 1))))) .nil) }
def dr4 : DR := { name := "pieces_without", ps := ["points", "ties", "removed"], N := ["points", "ties", "removed", "gone", "point"], body :=
  (.cons (.asg (.name 3) (.dcomp (.seq (.slot 2)) (.name 4) [4] (.slot 4) (.bl true))) (.cons (.ret (.call 3 (.cons (.comp (.seq (.slot 0)) (.name 4) [4] (.some (.b (.cmp .notin (.slot 4) (.slot 3)))) (.slot 4)) (.cons (.slot 1) .nil)))) .nil)) }
def dr5 : DR := { name := "bars", ps := ["points", "ties", "removed"], N := ["points", "ties", "removed"], body :=
  (.cons (.ret (.cmp .gt (.blt .len (.call 4 (.cons (.slot 0) (.cons (.slot 1) (.cons (.slot 2) .nil))))) (.blt .len (.slot 2)))) .nil) }
def dr6 : DR := { name := "_law_cell", ps := ["_law_script", "_law_k"], N := ["_law_script", "_law_k"], body :=
  (.cons (.ife (.b (.cmp .lt (.slot 1) (.blt .len (.slot 0)))) (.cons (.ret (.ix (.slot 0) (.slot 1))) .nil) .nil) (.cons (.ret (.int 0)) .nil)) }
def dr7 : DR := { name := "_law_draws", ps := ["_law_cell_here", "_law_many"], N := ["_law_cell_here", "_law_many", "_law_rest", "_law_exact", "_law_mixed", "_law_draws_here", "_law_k"], body :=
  (.cons (.asg (.name 2) (.blt .abs (.blt .int (.slot 0)))) (.cons (.asg (.name 3) (.cmp .ge (.slot 2) (.bin .pow (.int 10) (.int 18)))) (.cons (.asg (.name 4) (.bin .add (.bin .mod (.blt .int (.slot 2)) (.int 2147483629)) (.int 17))) (.cons (.frz 4) (.cons (.asg (.name 5) (.lst .nil)) (.cons (.fr (.r1 (.slot 1)) (.name 6) (.cons (.asg (.name 4) (.bin .mod (.blt .int (.bin .add (.bin .add (.bin .mul (.slot 4) (.int 48271)) (.bin .mul (.int 9973) (.slot 6))) (.int 11))) (.int 2147483647))) (.cons (.ife (.and (.cons (.v (.slot 3)) (.cons (.b (.cmp .gt (.slot 2) (.int 0))) .nil))) (.cons (.app 5 .nil (.bin .mod (.blt .int (.slot 2)) (.int 60))) (.cons (.asg (.name 2) (.bin .fdiv (.slot 2) (.int 60))) .nil)) (.cons (.app 5 .nil (.bin .mod (.bin .fdiv (.slot 4) (.int 13)) (.int 60))) .nil)) .nil))) (.cons (.frz 4) (.cons (.retmv 5) .nil)))))))) }
def dr8 : DR := { name := "_law_pick", ps := ["_law_draws_here", "_law_k", "_law_many"], N := ["_law_draws_here", "_law_k", "_law_many"], body :=
  (.cons (.ife (.or (.cons (.b (.cmp .lt (.slot 2) (.int 2))) (.cons (.b (.cmp .eq (.blt .len (.slot 0)) (.int 0))) .nil))) (.cons (.ret (.int 0)) .nil) .nil) (.cons (.ret (.bin .mod (.blt .int (.ix (.slot 0) (.bin .mod (.blt .int (.slot 1)) (.blt .len (.slot 0))))) (.slot 2))) .nil)) }
def dr9 : DR := { name := "_law_points", ps := ["_law_draws_here", "_law_most"], N := ["_law_draws_here", "_law_most", "_law_points_here", "_law_k", "_law_point"], body :=
  (.cons (.asg (.name 2) (.lst .nil)) (.cons (.fr (.r1 (.call 8 (.cons (.slot 0) (.cons (.int 0) (.cons (.bin .add (.slot 1) (.int 1)) .nil))))) (.name 3) (.cons (.asg (.name 4) (.bin .add (.bin .mul (.int 60) (.call 8 (.cons (.slot 0) (.cons (.bin .add (.int 1) (.bin .mul (.int 2) (.slot 3))) (.cons (.int 60) .nil))))) (.call 8 (.cons (.slot 0) (.cons (.bin .add (.int 2) (.bin .mul (.int 2) (.slot 3))) (.cons (.int 60) .nil)))))) (.cons (.ife (.b (.cmp .notin (.slot 4) (.slot 2))) (.cons (.frz 4) (.cons (.app 2 .nil (.slot 4)) .nil)) .nil) .nil))) (.cons (.retmv 2) .nil))) }
def dr10 : DR := { name := "_law_end", ps := ["_law_draws_here", "_law_k", "_law_points_here"], N := ["_law_draws_here", "_law_k", "_law_points_here"], body :=
  (.cons (.ife (.or (.cons (.b (.cmp .eq (.blt .len (.slot 2)) (.int 0))) (.cons (.b (.cmp .eq (.call 8 (.cons (.slot 0) (.cons (.slot 1) (.cons (.int 6) .nil)))) (.int 5))) .nil))) (.cons (.ret (.bin .add (.int 4000) (.call 8 (.cons (.slot 0) (.cons (.bin .add (.slot 1) (.int 1)) (.cons (.int 60) .nil)))))) .nil) .nil) (.cons (.ret (.ix (.slot 2) (.call 8 (.cons (.slot 0) (.cons (.bin .add (.slot 1) (.int 1)) (.cons (.blt .len (.slot 2)) .nil)))))) .nil)) }
def dr11 : DR := { name := "_law_groups", ps := ["_law_points_here", "_law_ties"], N := ["_law_points_here", "_law_ties", "_law_label", "_law_point", "_law_k", "_law_one", "_law_other", "_law_low", "_law_groups_here"], body :=
  (.cons (.asg (.name 2) .dic) (.cons (.fr (.seq (.slot 0)) (.name 3) (.cons (.put 2 .nil (.slot 3) (.slot 3)) .nil)) (.cons (.fr (.r1 (.blt .len (.slot 0))) (.name 4) (.cons (.fr (.seq (.slot 1)) (.tup [5, 6]) (.cons (.ife (.and (.cons (.b (.cmp .isin (.slot 5) (.slot 2))) (.cons (.b (.cmp .isin (.slot 6) (.slot 2))) .nil))) (.cons (.asg (.name 7) (.mn (.ix (.slot 2) (.slot 5)) (.ix (.slot 2) (.slot 6)))) (.cons (.frz 7) (.cons (.put 2 .nil (.slot 5) (.slot 7)) (.cons (.frz 7) (.cons (.put 2 .nil (.slot 6) (.slot 7)) .nil))))) .nil) .nil)) .nil)) (.cons (.frz 2) (.cons (.asg (.name 8) (.lst .nil)) (.cons (.fr (.seq (.blt .sorted (.slot 0))) (.name 3) (.cons (.ife (.b (.cmp .eq (.ix (.slot 2) (.slot 3)) (.slot 3))) (.cons (.app 8 .nil (.comp (.seq (.blt .sorted (.slot 0))) (.name 6) [6] (.some (.b (.cmp .eq (.ix (.slot 2) (.slot 6)) (.slot 3)))) (.slot 6))) .nil) .nil) .nil)) (.cons (.retmv 8) .nil))))))) }
def dr12 : DR := { name := "_law_odd", ps := ["_law_points_here", "_law_ties"], N := ["_law_points_here", "_law_ties", "_law_group"], body :=
  (.cons (.ret (.flt (.call 11 (.cons (.slot 0) (.cons (.slot 1) .nil))) 2 (.b (.cmp .eq (.bin .mod (.blt .len (.slot 2)) (.int 2)) (.int 1))))) .nil) }
def dr13 : DR := { name := "_law_removed", ps := ["_law_draws_here", "_law_points_here"], N := ["_law_draws_here", "_law_points_here", "_law_pool", "_law_removed_here", "_law_k"], body :=
  (.cons (.asg (.name 2) (.blt .list (.slot 1))) (.cons (.asg (.name 3) (.lst .nil)) (.cons (.fr (.r1 (.call 8 (.cons (.slot 0) (.cons (.int 0) (.cons (.bin .add (.blt .len (.slot 1)) (.int 1)) .nil))))) (.name 4) (.cons (.apop 3 2 (.call 8 (.cons (.slot 0) (.cons (.bin .add (.int 1) (.slot 4)) (.cons (.blt .len (.slot 2)) .nil))))) .nil)) (.cons (.frz 2) (.cons (.retmv 3) .nil))))) }
def dr14 : DR := { name := "_law_same", ps := ["_law_told", "_law_due"], N := ["_law_told", "_law_due", "_law_k", "_law_point"], body :=
  (.cons (.ife (.or (.cons (.not (.v (.isi "list" (.slot 0)))) (.cons (.b (.cmp .ne (.blt .len (.slot 0)) (.blt .len (.slot 1)))) .nil))) (.cons (.ret (.bl false)) .nil) .nil) (.cons (.fr (.r1 (.blt .len (.slot 1))) (.name 2) (.cons (.ife (.or (.cons (.not (.v (.isi "list" (.ix (.slot 0) (.slot 2))))) (.cons (.b (.cmp .ne (.ix (.slot 0) (.slot 2)) (.ix (.slot 1) (.slot 2)))) .nil))) (.cons (.ret (.bl false)) .nil) .nil) (.cons (.fr (.seq (.ix (.slot 0) (.slot 2))) (.name 3) (.cons (.ife (.or (.cons (.not (.v (.isi "int" (.slot 3)))) (.cons (.v (.isi "bool" (.slot 3))) .nil))) (.cons (.ret (.bl false)) .nil) .nil) .nil)) .nil))) (.cons (.ret (.bl true)) .nil))) }
def dr15 : DR := { name := "_law_bars", ps := ["_law_points_here", "_law_ties", "_law_removed_here"], N := ["_law_points_here", "_law_ties", "_law_removed_here", "_law_left", "_law_due", "_law_passed_points", "_law_passed_ties", "_law_passed_removed", "_law_told", "_law_point"], body :=
  (.cons (.asg (.name 3) (.comp (.seq (.slot 0)) (.name 9) [9] (.some (.b (.cmp .notin (.slot 9) (.slot 2)))) (.slot 9))) (.cons (.frz 3) (.cons (.asg (.name 4) (.cmp .gt (.blt .len (.call 12 (.cons (.slot 3) (.cons (.slot 1) .nil)))) (.blt .len (.slot 2)))) (.cons (.asg (.name 5) (.blt .list (.slot 0))) (.cons (.frz 5) (.cons (.asg (.name 6) (.blt .list (.slot 1))) (.cons (.frz 6) (.cons (.asg (.name 7) (.blt .list (.slot 2))) (.cons (.frz 7) (.cons (.asg (.name 8) (.call 5 (.cons (.slot 5) (.cons (.slot 6) (.cons (.slot 7) .nil))))) (.cons (.frz 8) (.cons (.ife (.or (.cons (.b (.cmp .ne (.slot 5) (.slot 0))) (.cons (.b (.cmp .ne (.slot 6) (.slot 1))) (.cons (.b (.cmp .ne (.slot 7) (.slot 2))) .nil)))) (.cons (.ret (.bl false)) .nil) .nil) (.cons (.ret (.and (.cons (.isi "bool" (.slot 8)) (.cons (.cmp .eq (.slot 8) (.slot 4)) .nil)))) .nil))))))))))))) }
def dr16 : DR := { name := "law", ps := ["_law_script"], N := ["_law_script", "_law_points_here", "_law_draws_here", "_law_ties", "_law_k", "_law_removed_here", "_law_due", "_law_passed_points", "_law_passed_ties", "_law_told", "_law_group", "_law_lot"], body :=
  (.cons (.asg (.name 1) (.call 9 (.cons (.call 7 (.cons (.call 6 (.cons (.slot 0) (.cons (.int 0) .nil))) (.cons (.int 30) .nil))) (.cons (.int 14) .nil)))) (.cons (.frz 1) (.cons (.asg (.name 2) (.call 7 (.cons (.call 6 (.cons (.slot 0) (.cons (.int 1) .nil))) (.cons (.int 60) .nil)))) (.cons (.frz 2) (.cons (.asg (.name 3) (.lst .nil)) (.cons (.fr (.r1 (.call 8 (.cons (.slot 2) (.cons (.int 0) (.cons (.int 15) .nil))))) (.name 4) (.cons (.app 3 .nil (.tup (.cons (.call 10 (.cons (.slot 2) (.cons (.bin .add (.int 1) (.bin .mul (.int 4) (.slot 4))) (.cons (.slot 1) .nil)))) (.cons (.call 10 (.cons (.slot 2) (.cons (.bin .add (.int 3) (.bin .mul (.int 4) (.slot 4))) (.cons (.slot 1) .nil)))) .nil)))) .nil)) (.cons (.frz 3) (.cons (.asg (.name 5) (.call 13 (.cons (.call 7 (.cons (.call 6 (.cons (.slot 0) (.cons (.int 2) .nil))) (.cons (.int 16) .nil))) (.cons (.slot 1) .nil)))) (.cons (.frz 5) (.cons (.asg (.name 6) (.call 12 (.cons (.slot 1) (.cons (.slot 3) .nil)))) (.cons (.frz 6) (.cons (.asg (.name 7) (.blt .list (.slot 1))) (.cons (.frz 7) (.cons (.asg (.name 8) (.blt .list (.slot 3))) (.cons (.frz 8) (.cons (.asg (.name 9) (.call 3 (.cons (.slot 7) (.cons (.slot 8) .nil)))) (.cons (.ife (.or (.cons (.b (.cmp .ne (.slot 7) (.slot 1))) (.cons (.b (.cmp .ne (.slot 8) (.slot 3))) (.cons (.not (.v (.call 14 (.cons (.slot 9) (.cons (.slot 6) .nil))))) .nil)))) (.cons (.ret (.bl false)) .nil) .nil) (.cons (.each 9 10 (.int 5000)) (.cons (.app 9 .nil (.lst (.cons (.int 5001) .nil))) (.cons (.frz 9) (.cons (.ife (.not (.v (.call 14 (.cons (.call 3 (.cons (.blt .list (.slot 1)) (.cons (.blt .list (.slot 3)) .nil))) (.cons (.slot 6) .nil))))) (.cons (.ret (.bl false)) .nil) .nil) (.cons (.fr (.seq (.lst (.cons (.slot 5) (.cons (.lst .nil) (.cons (.slot 1) (.cons (.cut (.slot 5) .none (.some (.neg (.int 1)))) .nil)))))) (.name 11) (.cons (.ife (.not (.v (.call 15 (.cons (.slot 1) (.cons (.slot 3) (.cons (.blt .list (.slot 11)) .nil)))))) (.cons (.ret (.bl false)) .nil) .nil) .nil)) (.cons (.ret (.bl true)) .nil))))))))))))))))))))))) }
def drs : List DR := [dr16, dr15, dr14, dr13, dr12, dr11, dr10, dr9, dr8, dr7, dr6, dr5, dr4, dr3, dr2, dr1, dr0]
def stIx : List Nat := [19, 18, 17, 16, 15, 14, 13, 12, 11, 10, 9, 7, 6, 5, 1, 3, 2]
def top (i : Nat) : Stmt := PySem.Challenge.pw_comesapart_k36_odd_pieces_and_bars.main.body.getD i (.Pass ⟨0, 0, 0, 0⟩)
def sts : List Stmt := stIx.map top
theorem ok : okR drs sts = true := by decide +kernel
end K36
namespace K36
open PySem L2 EV
noncomputable def T0 : Nat → FD := tabR []
noncomputable def T1 : Nat → FD := tabR [dr0]
noncomputable def T2 : Nat → FD := tabR [dr1, dr0]
noncomputable def T3 : Nat → FD := tabR [dr2, dr1, dr0]
noncomputable def T4 : Nat → FD := tabR [dr3, dr2, dr1, dr0]
noncomputable def T5 : Nat → FD := tabR [dr4, dr3, dr2, dr1, dr0]
noncomputable def T6 : Nat → FD := tabR [dr5, dr4, dr3, dr2, dr1, dr0]
noncomputable def T7 : Nat → FD := tabR [dr6, dr5, dr4, dr3, dr2, dr1, dr0]
noncomputable def T8 : Nat → FD := tabR [dr7, dr6, dr5, dr4, dr3, dr2, dr1, dr0]
noncomputable def T9 : Nat → FD := tabR [dr8, dr7, dr6, dr5, dr4, dr3, dr2, dr1, dr0]
noncomputable def T10 : Nat → FD := tabR [dr9, dr8, dr7, dr6, dr5, dr4, dr3, dr2, dr1, dr0]
noncomputable def T11 : Nat → FD := tabR [dr10, dr9, dr8, dr7, dr6, dr5, dr4, dr3, dr2, dr1, dr0]
noncomputable def T12 : Nat → FD := tabR [dr11, dr10, dr9, dr8, dr7, dr6, dr5, dr4, dr3, dr2, dr1, dr0]
noncomputable def T13 : Nat → FD := tabR [dr12, dr11, dr10, dr9, dr8, dr7, dr6, dr5, dr4, dr3, dr2, dr1, dr0]
noncomputable def T14 : Nat → FD := tabR [dr13, dr12, dr11, dr10, dr9, dr8, dr7, dr6, dr5, dr4, dr3, dr2, dr1, dr0]
noncomputable def T15 : Nat → FD := tabR [dr14, dr13, dr12, dr11, dr10, dr9, dr8, dr7, dr6, dr5, dr4, dr3, dr2, dr1, dr0]
noncomputable def T16 : Nat → FD := tabR [dr15, dr14, dr13, dr12, dr11, dr10, dr9, dr8, dr7, dr6, dr5, dr4, dr3, dr2, dr1, dr0]
noncomputable def F0 : FD := ⟨2, fun ds => noEx (runF T0 6 dr0.body ds)⟩
noncomputable def F1 : FD := ⟨2, fun ds => noEx (runF T1 6 dr1.body ds)⟩
noncomputable def F2 : FD := ⟨2, fun ds => noEx (runF T2 8 dr2.body ds)⟩
noncomputable def F3 : FD := ⟨2, fun ds => noEx (runF T3 3 dr3.body ds)⟩
noncomputable def F4 : FD := ⟨3, fun ds => noEx (runF T4 5 dr4.body ds)⟩
noncomputable def F5 : FD := ⟨3, fun ds => noEx (runF T5 3 dr5.body ds)⟩
noncomputable def F6 : FD := ⟨2, fun ds => noEx (runF T6 2 dr6.body ds)⟩
noncomputable def F7 : FD := ⟨2, fun ds => noEx (runF T7 7 dr7.body ds)⟩
noncomputable def F8 : FD := ⟨3, fun ds => noEx (runF T8 3 dr8.body ds)⟩
noncomputable def F9 : FD := ⟨2, fun ds => noEx (runF T9 5 dr9.body ds)⟩
noncomputable def F10 : FD := ⟨3, fun ds => noEx (runF T10 3 dr10.body ds)⟩
noncomputable def F11 : FD := ⟨2, fun ds => noEx (runF T11 9 dr11.body ds)⟩
noncomputable def F12 : FD := ⟨2, fun ds => noEx (runF T12 3 dr12.body ds)⟩
noncomputable def F13 : FD := ⟨2, fun ds => noEx (runF T13 5 dr13.body ds)⟩
noncomputable def F14 : FD := ⟨2, fun ds => noEx (runF T14 4 dr14.body ds)⟩
noncomputable def F15 : FD := ⟨3, fun ds => noEx (runF T15 10 dr15.body ds)⟩
theorem t2_0 : T2 0 = F0 := rfl
theorem t2_1 : T2 1 = F1 := rfl
theorem t3_2 : T3 2 = F2 := rfl
theorem t4_3 : T4 3 = F3 := rfl
theorem t5_4 : T5 4 = F4 := rfl
theorem t9_8 : T9 8 = F8 := rfl
theorem t10_8 : T10 8 = F8 := rfl
theorem t12_11 : T12 11 = F11 := rfl
theorem t13_8 : T13 8 = F8 := rfl
theorem t15_5 : T15 5 = F5 := rfl
theorem t15_12 : T15 12 = F12 := rfl
theorem t16_3 : T16 3 = F3 := rfl
theorem t16_6 : T16 6 = F6 := rfl
theorem t16_7 : T16 7 = F7 := rfl
theorem t16_8 : T16 8 = F8 := rfl
theorem t16_9 : T16 9 = F9 := rfl
theorem t16_10 : T16 10 = F10 := rfl
theorem t16_12 : T16 12 = F12 := rfl
theorem t16_13 : T16 13 = F13 := rfl
theorem t16_14 : T16 14 = F14 := rfl
theorem t16_15 : T16 15 = F15 := rfl
theorem law_sem (ds : List D) : (tabR drs 16).sem ds = noEx (runF T16 12 dr16.body ds) := rfl
end K36
namespace K36
open PySem PySem.Spec PyProof.Rows L2 EV
/-! the head's facts, the run of the top -/
abbrev R : PySem.W.OpenRow := PySem.W.OpenLaw.row PySem.Challenge.rw_comesapart_k36_odd_pieces_and_bars
abbrev fa : List He.Fa := faD drs
abbrev fn : List He.DefD := fnD drs sts
abbrev hk : PySem.W.Hook := He.hookD 4 fa fn
def ob (s : PySem.W.SharedT) : He.AlD := He.obsDG 4 fa fn (HandSHeadRun.getT s)
theorem ob_eq (s : PySem.W.SharedT) : ob s = hk.obs s.abs := He.obsDG_eq (HandSHeadRun.getT_eq s)
def others : List Str := ["neighbour_lists", "reached_points", "grouped", "odd_pieces", "pieces_without", "bars", "_law_cell", "_law_draws", "_law_pick", "_law_points", "_law_end", "_law_groups", "_law_odd", "_law_removed", "_law_same", "_law_bars"]
theorem run (w : World) : HandSHeadRun.RunEq R (PySem.W.view R.prog [19]) hk ob 2000 others w := by
  intro os
  kernel_rfl
section
variable {K : PySem.W.Frag} {h : Heap} {mg : Str → Option Value}
theorem bd16 {f : Addr} {fd : FuncData} (F : Fun K dr16.name dr16.name (top 19) f fd) : Binds K fd dr16.ps [] := F.binds fun _ _ _ _ _ _ us hl => match us, hl with | [_], _ => rfl
theorem bd15 {f : Addr} {fd : FuncData} (F : Fun K dr15.name dr15.name (top 18) f fd) : Binds K fd dr15.ps [] := F.binds fun _ _ _ _ _ _ us hl => match us, hl with | [_, _, _], _ => rfl
theorem bd14 {f : Addr} {fd : FuncData} (F : Fun K dr14.name dr14.name (top 17) f fd) : Binds K fd dr14.ps [] := F.binds fun _ _ _ _ _ _ us hl => match us, hl with | [_, _], _ => rfl
theorem bd13 {f : Addr} {fd : FuncData} (F : Fun K dr13.name dr13.name (top 16) f fd) : Binds K fd dr13.ps [] := F.binds fun _ _ _ _ _ _ us hl => match us, hl with | [_, _], _ => rfl
theorem bd12 {f : Addr} {fd : FuncData} (F : Fun K dr12.name dr12.name (top 15) f fd) : Binds K fd dr12.ps [] := F.binds fun _ _ _ _ _ _ us hl => match us, hl with | [_, _], _ => rfl
theorem bd11 {f : Addr} {fd : FuncData} (F : Fun K dr11.name dr11.name (top 14) f fd) : Binds K fd dr11.ps [] := F.binds fun _ _ _ _ _ _ us hl => match us, hl with | [_, _], _ => rfl
theorem bd10 {f : Addr} {fd : FuncData} (F : Fun K dr10.name dr10.name (top 13) f fd) : Binds K fd dr10.ps [] := F.binds fun _ _ _ _ _ _ us hl => match us, hl with | [_, _, _], _ => rfl
theorem bd9 {f : Addr} {fd : FuncData} (F : Fun K dr9.name dr9.name (top 12) f fd) : Binds K fd dr9.ps [] := F.binds fun _ _ _ _ _ _ us hl => match us, hl with | [_, _], _ => rfl
theorem bd8 {f : Addr} {fd : FuncData} (F : Fun K dr8.name dr8.name (top 11) f fd) : Binds K fd dr8.ps [] := F.binds fun _ _ _ _ _ _ us hl => match us, hl with | [_, _, _], _ => rfl
theorem bd7 {f : Addr} {fd : FuncData} (F : Fun K dr7.name dr7.name (top 10) f fd) : Binds K fd dr7.ps [] := F.binds fun _ _ _ _ _ _ us hl => match us, hl with | [_, _], _ => rfl
theorem bd6 {f : Addr} {fd : FuncData} (F : Fun K dr6.name dr6.name (top 9) f fd) : Binds K fd dr6.ps [] := F.binds fun _ _ _ _ _ _ us hl => match us, hl with | [_, _], _ => rfl
theorem bd5 {f : Addr} {fd : FuncData} (F : Fun K dr5.name dr5.name (top 7) f fd) : Binds K fd dr5.ps [] := F.binds fun _ _ _ _ _ _ us hl => match us, hl with | [_, _, _], _ => rfl
theorem bd4 {f : Addr} {fd : FuncData} (F : Fun K dr4.name dr4.name (top 6) f fd) : Binds K fd dr4.ps [] := F.binds fun _ _ _ _ _ _ us hl => match us, hl with | [_, _, _], _ => rfl
theorem bd3 {f : Addr} {fd : FuncData} (F : Fun K dr3.name dr3.name (top 5) f fd) : Binds K fd dr3.ps [] := F.binds fun _ _ _ _ _ _ us hl => match us, hl with | [_, _], _ => rfl
theorem bd2 {f : Addr} {fd : FuncData} (F : Fun K dr2.name dr2.name (top 1) f fd) : Binds K fd dr2.ps [] := F.binds fun _ _ _ _ _ _ us hl => match us, hl with | [_, _], _ => rfl
theorem bd1 {f : Addr} {fd : FuncData} (F : Fun K dr1.name dr1.name (top 3) f fd) : Binds K fd dr1.ps [] := F.binds fun _ _ _ _ _ _ us hl => match us, hl with | [_, _], _ => rfl
theorem bd0 {f : Addr} {fd : FuncData} (F : Fun K dr0.name dr0.name (top 2) f fd) : Binds K fd dr0.ps [] := F.binds fun _ _ _ _ _ _ us hl => match us, hl with | [_, _], _ => rfl
theorem facts (c : He.SaysD fa fn K) (X : K.In h) (G : h.Ns mainGlobals mg) : ∀ (i : Nat) (d : DR) (st : Stmt), drs[i]? = some d → sts[i]? = some st → ∃ f fd, Fun K d.name d.name st f fd ∧ mg d.name = some (.ref f) ∧ Binds K fd d.ps [] := by
  intro i d st h1 h2
  obtain ⟨f, fd, F, m⟩ := said_def c X G h1 h2
  refine ⟨f, fd, F, m, ?_⟩
  match i, h1, h2 with
  | 0, h1, h2 => cases h1; cases h2; exact bd16 F
  | 1, h1, h2 => cases h1; cases h2; exact bd15 F
  | 2, h1, h2 => cases h1; cases h2; exact bd14 F
  | 3, h1, h2 => cases h1; cases h2; exact bd13 F
  | 4, h1, h2 => cases h1; cases h2; exact bd12 F
  | 5, h1, h2 => cases h1; cases h2; exact bd11 F
  | 6, h1, h2 => cases h1; cases h2; exact bd10 F
  | 7, h1, h2 => cases h1; cases h2; exact bd9 F
  | 8, h1, h2 => cases h1; cases h2; exact bd8 F
  | 9, h1, h2 => cases h1; cases h2; exact bd7 F
  | 10, h1, h2 => cases h1; cases h2; exact bd6 F
  | 11, h1, h2 => cases h1; cases h2; exact bd5 F
  | 12, h1, h2 => cases h1; cases h2; exact bd4 F
  | 13, h1, h2 => cases h1; cases h2; exact bd3 F
  | 14, h1, h2 => cases h1; cases h2; exact bd2 F
  | 15, h1, h2 => cases h1; cases h2; exact bd1 F
  | 16, h1, h2 => cases h1; cases h2; exact bd0 F
  | n + 17, h1, h2 => exact absurd (show (none : Option DR) = some d from h1) nofun
end
end K36
namespace K36
open PySem L2 EV
theorem cell_scr (ns : List Int) (k : Int) (hk : 0 ≤ k) : Wp (F6.sem [.scr ns, .int k]) fun d => ∃ c, d = .int c := by
  simp [F6, runF, dr6, evSs, evS, evE, evEs, evP, evO, evTo, evT, evAnd, evOr, evTA, evTO, evIt, wp_bind, wp_nx, wp_if, wp_ok, wp_st, ok_bind, ok_nx, ok_rt, EV.R.of_some, rof_if, nxQ_nx, nxQ_rt, wp_noEx, g_0, g_s, s_0, s_s, s_t2, bb, zz, tru_bl, noEx_j, isi_list, isi_int, isi_bool, q_ll, q_llb, lenOk_of, b_add, b_sub, b_mul, b_div, b_mod, b_pow, mulOk_r, mulOk_l, divOk_of, c_lt, c_le, c_gt, c_ge, c_eq, c_ne, c_in, c_ni, dIn_dic, x_lst, x_scr, x_dic, l_lst, l_scr, l_abs, l_int, l_list, l_tup, l_sorted, l_sortedk, i_int, q_lst, q_lstp, q_b, q_bp, q_tup, q_tupp, a_app, a_put, t_0, t_s, rng_of, li_zz, li_bb, li_clean, li_z, pr_zz, pr_bb, pr_clean, pr_z, ll_zz, ll_bb, ll_cleanO, ll_cleanZ, ll_z, clean, isZ, isZs, cleans, zzs, bbs, Fl.bb, dIn_li, dEq_li, dEq_pr, dEq_ll, dEq_int, taint, taints, li_taint, pr_taint, ll_taint, Fl.tt, li_len, pr_len, ll_len, keyOf, List.map_cons, List.map_nil, List.length_cons, List.length_nil, List.set_cons_zero, List.set_cons_succ, Option.map_some]
  intro h
  simp [atI_ok hk h, evSs, evS, evE, evEs, evP, evO, evTo, evT, evAnd, evOr, evTA, evTO, evIt, wp_bind, wp_nx, wp_if, wp_ok, wp_st, ok_bind, ok_nx, ok_rt, EV.R.of_some, rof_if, nxQ_nx, nxQ_rt, wp_noEx, g_0, g_s, s_0, s_s, s_t2, bb, zz, tru_bl, noEx_j, isi_list, isi_int, isi_bool, q_ll, q_llb, lenOk_of, b_add, b_sub, b_mul, b_div, b_mod, b_pow, mulOk_r, mulOk_l, divOk_of, c_lt, c_le, c_gt, c_ge, c_eq, c_ne, c_in, c_ni, dIn_dic, x_lst, x_scr, x_dic, l_lst, l_scr, l_abs, l_int, l_list, l_tup, l_sorted, l_sortedk, i_int, q_lst, q_lstp, q_b, q_bp, q_tup, q_tupp, a_app, a_put, t_0, t_s, rng_of, li_zz, li_bb, li_clean, li_z, pr_zz, pr_bb, pr_clean, pr_z, ll_zz, ll_bb, ll_cleanO, ll_cleanZ, ll_z, clean, isZ, isZs, cleans, zzs, bbs, Fl.bb, dIn_li, dEq_li, dEq_pr, dEq_ll, dEq_int, taint, taints, li_taint, pr_taint, ll_taint, Fl.tt, li_len, pr_len, ll_len, keyOf, List.map_cons, List.map_nil, List.length_cons, List.length_nil, List.set_cons_zero, List.set_cons_succ, Option.map_some]
theorem cell_lst (ns : List Int) (k : Int) (hk : 0 ≤ k) : Wp (F6.sem [.lst .z (li ns), .int k]) fun d => ∃ c, d = .int c := by
  simp [F6, runF, dr6, evSs, evS, evE, evEs, evP, evO, evTo, evT, evAnd, evOr, evTA, evTO, evIt, wp_bind, wp_nx, wp_if, wp_ok, wp_st, ok_bind, ok_nx, ok_rt, EV.R.of_some, rof_if, nxQ_nx, nxQ_rt, wp_noEx, g_0, g_s, s_0, s_s, s_t2, bb, zz, tru_bl, noEx_j, isi_list, isi_int, isi_bool, q_ll, q_llb, lenOk_of, b_add, b_sub, b_mul, b_div, b_mod, b_pow, mulOk_r, mulOk_l, divOk_of, c_lt, c_le, c_gt, c_ge, c_eq, c_ne, c_in, c_ni, dIn_dic, x_lst, x_scr, x_dic, l_lst, l_scr, l_abs, l_int, l_list, l_tup, l_sorted, l_sortedk, i_int, q_lst, q_lstp, q_b, q_bp, q_tup, q_tupp, a_app, a_put, t_0, t_s, rng_of, li_zz, li_bb, li_clean, li_z, pr_zz, pr_bb, pr_clean, pr_z, ll_zz, ll_bb, ll_cleanO, ll_cleanZ, ll_z, clean, isZ, isZs, cleans, zzs, bbs, Fl.bb, dIn_li, dEq_li, dEq_pr, dEq_ll, dEq_int, taint, taints, li_taint, pr_taint, ll_taint, Fl.tt, li_len, pr_len, ll_len, keyOf, List.map_cons, List.map_nil, List.length_cons, List.length_nil, List.set_cons_zero, List.set_cons_succ, Option.map_some]
  intro h
  have h2 : k < ((li ns).length : Int) := by rw [li_len]; exact h
  simp [atI_ok hk h2, evSs, evS, evE, evEs, evP, evO, evTo, evT, evAnd, evOr, evTA, evTO, evIt, wp_bind, wp_nx, wp_if, wp_ok, wp_st, ok_bind, ok_nx, ok_rt, EV.R.of_some, rof_if, nxQ_nx, nxQ_rt, wp_noEx, g_0, g_s, s_0, s_s, s_t2, bb, zz, tru_bl, noEx_j, isi_list, isi_int, isi_bool, q_ll, q_llb, lenOk_of, b_add, b_sub, b_mul, b_div, b_mod, b_pow, mulOk_r, mulOk_l, divOk_of, c_lt, c_le, c_gt, c_ge, c_eq, c_ne, c_in, c_ni, dIn_dic, x_lst, x_scr, x_dic, l_lst, l_scr, l_abs, l_int, l_list, l_tup, l_sorted, l_sortedk, i_int, q_lst, q_lstp, q_b, q_bp, q_tup, q_tupp, a_app, a_put, t_0, t_s, rng_of, li_zz, li_bb, li_clean, li_z, pr_zz, pr_bb, pr_clean, pr_z, ll_zz, ll_bb, ll_cleanO, ll_cleanZ, ll_z, clean, isZ, isZs, cleans, zzs, bbs, Fl.bb, dIn_li, dEq_li, dEq_pr, dEq_ll, dEq_int, taint, taints, li_taint, pr_taint, ll_taint, Fl.tt, li_len, pr_len, ll_len, keyOf, List.map_cons, List.map_nil, List.length_cons, List.length_nil, List.set_cons_zero, List.set_cons_succ, Option.map_some]
  simp [li, List.getElem_map]
def I4 (c m : Int) (i : Nat) (e : EV.Env) : Prop := ∃ (r mx : Int) (ex : Bool) (L : List Int) (v : Option D), e = [some (.int c), some (.int m), some (.int r), some (.bl ex), some (.int mx), some (.lst .o (li L)), v] ∧ L.length = i
theorem pow18 : powOk 10 18 = true := by decide
theorem draws_ok (c m : Int) (h0 : 0 ≤ m) (h1 : m ≤ 60) : Wp (F7.sem [.int c, .int m]) fun d => ∃ L : List Int, d = .lst .o (li L) ∧ (L.length : Int) = m := by
  simp [F7, runF, dr7, evSs, evS, evE, evEs, evP, evO, evTo, evT, evAnd, evOr, evTA, evTO, evIt, wp_bind, wp_nx, wp_if, wp_ok, wp_st, ok_bind, ok_nx, ok_rt, EV.R.of_some, rof_if, nxQ_nx, nxQ_rt, wp_noEx, g_0, g_s, s_0, s_s, s_t2, bb, zz, tru_bl, noEx_j, isi_list, isi_int, isi_bool, q_ll, q_llb, lenOk_of, b_add, b_sub, b_mul, b_div, b_mod, b_pow, mulOk_r, mulOk_l, divOk_of, c_lt, c_le, c_gt, c_ge, c_eq, c_ne, c_in, c_ni, dIn_dic, x_lst, x_scr, x_dic, l_lst, l_scr, l_abs, l_int, l_list, l_tup, l_sorted, l_sortedk, i_int, q_lst, q_lstp, q_b, q_bp, q_tup, q_tupp, a_app, a_put, t_0, t_s, rng_of, li_zz, li_bb, li_clean, li_z, pr_zz, pr_bb, pr_clean, pr_z, ll_zz, ll_bb, ll_cleanO, ll_cleanZ, ll_z, clean, isZ, isZs, cleans, zzs, bbs, Fl.bb, dIn_li, dEq_li, dEq_pr, dEq_ll, dEq_int, taint, taints, li_taint, pr_taint, ll_taint, Fl.tt, li_len, pr_len, ll_len, keyOf, List.map_cons, List.map_nil, List.length_cons, List.length_nil, List.set_cons_zero, List.set_cons_succ, Option.map_some, pow18]
  refine ⟨fun _ => ?_, rng_of (by omega) (by omega)⟩
  refine wp_for (I4 c m) ⟨_, _, _, [], _, rfl, rfl⟩ ?_ ?_
  · rintro i d e hi ⟨r, mx, ex, L, v, rfl, hl⟩
    obtain ⟨rfl, hi2⟩ := range_get hi
    have hs : L.length < sizeLine := by show L.length < 16777216; omega
    cases ex
    · simp [evSs, evS, evE, evEs, evP, evO, evTo, evT, evAnd, evOr, evTA, evTO, evIt, wp_bind, wp_nx, wp_if, wp_ok, wp_st, ok_bind, ok_nx, ok_rt, EV.R.of_some, rof_if, nxQ_nx, nxQ_rt, wp_noEx, g_0, g_s, s_0, s_s, s_t2, bb, zz, tru_bl, noEx_j, isi_list, isi_int, isi_bool, q_ll, q_llb, lenOk_of, b_add, b_sub, b_mul, b_div, b_mod, b_pow, mulOk_r, mulOk_l, divOk_of, c_lt, c_le, c_gt, c_ge, c_eq, c_ne, c_in, c_ni, dIn_dic, x_lst, x_scr, x_dic, l_lst, l_scr, l_abs, l_int, l_list, l_tup, l_sorted, l_sortedk, i_int, q_lst, q_lstp, q_b, q_bp, q_tup, q_tupp, a_app, a_put, t_0, t_s, rng_of, li_zz, li_bb, li_clean, li_z, pr_zz, pr_bb, pr_clean, pr_z, ll_zz, ll_bb, ll_cleanO, ll_cleanZ, ll_z, clean, isZ, isZs, cleans, zzs, bbs, Fl.bb, dIn_li, dEq_li, dEq_pr, dEq_ll, dEq_int, taint, taints, li_taint, pr_taint, ll_taint, Fl.tt, li_len, pr_len, ll_len, keyOf, List.map_cons, List.map_nil, List.length_cons, List.length_nil, List.set_cons_zero, List.set_cons_succ, Option.map_some, hs]
      exact post_nx ⟨_, _, _, L ++ [_], _, by rw [li_app], by simp [hl]⟩
    · simp [evSs, evS, evE, evEs, evP, evO, evTo, evT, evAnd, evOr, evTA, evTO, evIt, wp_bind, wp_nx, wp_if, wp_ok, wp_st, ok_bind, ok_nx, ok_rt, EV.R.of_some, rof_if, nxQ_nx, nxQ_rt, wp_noEx, g_0, g_s, s_0, s_s, s_t2, bb, zz, tru_bl, noEx_j, isi_list, isi_int, isi_bool, q_ll, q_llb, lenOk_of, b_add, b_sub, b_mul, b_div, b_mod, b_pow, mulOk_r, mulOk_l, divOk_of, c_lt, c_le, c_gt, c_ge, c_eq, c_ne, c_in, c_ni, dIn_dic, x_lst, x_scr, x_dic, l_lst, l_scr, l_abs, l_int, l_list, l_tup, l_sorted, l_sortedk, i_int, q_lst, q_lstp, q_b, q_bp, q_tup, q_tupp, a_app, a_put, t_0, t_s, rng_of, li_zz, li_bb, li_clean, li_z, pr_zz, pr_bb, pr_clean, pr_z, ll_zz, ll_bb, ll_cleanO, ll_cleanZ, ll_z, clean, isZ, isZs, cleans, zzs, bbs, Fl.bb, dIn_li, dEq_li, dEq_pr, dEq_ll, dEq_int, taint, taints, li_taint, pr_taint, ll_taint, Fl.tt, li_len, pr_len, ll_len, keyOf, List.map_cons, List.map_nil, List.length_cons, List.length_nil, List.set_cons_zero, List.set_cons_succ, Option.map_some, hs]
      exact ⟨fun _ => post_nx ⟨_, _, _, L ++ [_], _, by rw [li_app], by simp [hl]⟩, fun _ => post_nx ⟨_, _, _, L ++ [_], _, by rw [li_app], by simp [hl]⟩⟩
  · rintro e ⟨r, mx, ex, L, v, rfl, hl⟩
    simp [evSs, evS, evE, evEs, evP, evO, evTo, evT, evAnd, evOr, evTA, evTO, evIt, wp_bind, wp_nx, wp_if, wp_ok, wp_st, ok_bind, ok_nx, ok_rt, EV.R.of_some, rof_if, nxQ_nx, nxQ_rt, wp_noEx, g_0, g_s, s_0, s_s, s_t2, bb, zz, tru_bl, noEx_j, isi_list, isi_int, isi_bool, q_ll, q_llb, lenOk_of, b_add, b_sub, b_mul, b_div, b_mod, b_pow, mulOk_r, mulOk_l, divOk_of, c_lt, c_le, c_gt, c_ge, c_eq, c_ne, c_in, c_ni, dIn_dic, x_lst, x_scr, x_dic, l_lst, l_scr, l_abs, l_int, l_list, l_tup, l_sorted, l_sortedk, i_int, q_lst, q_lstp, q_b, q_bp, q_tup, q_tupp, a_app, a_put, t_0, t_s, rng_of, li_zz, li_bb, li_clean, li_z, pr_zz, pr_bb, pr_clean, pr_z, ll_zz, ll_bb, ll_cleanO, ll_cleanZ, ll_z, clean, isZ, isZs, cleans, zzs, bbs, Fl.bb, dIn_li, dEq_li, dEq_pr, dEq_ll, dEq_int, taint, taints, li_taint, pr_taint, ll_taint, Fl.tt, li_len, pr_len, ll_len, keyOf, List.map_cons, List.map_nil, List.length_cons, List.length_nil, List.set_cons_zero, List.set_cons_succ, Option.map_some]
    exact ⟨L, rfl, by rw [hl, range_len]; omega⟩
theorem pick_wp (L : List Int) (k m : Int) : Wp (F8.sem [.lst .z (li L), .int k, .int m]) fun d => ∃ r, d = .int r ∧ 0 ≤ r ∧ (r < m ∨ r = 0) := by
  simp [F8, runF, dr8, evSs, evS, evE, evEs, evP, evO, evTo, evT, evAnd, evOr, evTA, evTO, evIt, wp_bind, wp_nx, wp_if, wp_ok, wp_st, ok_bind, ok_nx, ok_rt, EV.R.of_some, rof_if, nxQ_nx, nxQ_rt, wp_noEx, g_0, g_s, s_0, s_s, s_t2, bb, zz, tru_bl, noEx_j, isi_list, isi_int, isi_bool, q_ll, q_llb, lenOk_of, b_add, b_sub, b_mul, b_div, b_mod, b_pow, mulOk_r, mulOk_l, divOk_of, c_lt, c_le, c_gt, c_ge, c_eq, c_ne, c_in, c_ni, dIn_dic, x_lst, x_scr, x_dic, l_lst, l_scr, l_abs, l_int, l_list, l_tup, l_sorted, l_sortedk, i_int, q_lst, q_lstp, q_b, q_bp, q_tup, q_tupp, a_app, a_put, t_0, t_s, rng_of, li_zz, li_bb, li_clean, li_z, pr_zz, pr_bb, pr_clean, pr_z, ll_zz, ll_bb, ll_cleanO, ll_cleanZ, ll_z, clean, isZ, isZs, cleans, zzs, bbs, Fl.bb, dIn_li, dEq_li, dEq_pr, dEq_ll, dEq_int, taint, taints, li_taint, pr_taint, ll_taint, Fl.tt, li_len, pr_len, ll_len, keyOf, List.map_cons, List.map_nil, List.length_cons, List.length_nil, List.set_cons_zero, List.set_cons_succ, Option.map_some]
  intro hm hL
  have h : 0 < L.length := List.length_pos_iff.mpr hL
  obtain ⟨x, hx, e⟩ := atI_li (L := L) (i := k % (L.length : Int)) (Int.emod_nonneg _ (by omega)) (Int.emod_lt_of_pos _ (by omega))
  simp [h, hL, e, evSs, evS, evE, evEs, evP, evO, evTo, evT, evAnd, evOr, evTA, evTO, evIt, wp_bind, wp_nx, wp_if, wp_ok, wp_st, ok_bind, ok_nx, ok_rt, EV.R.of_some, rof_if, nxQ_nx, nxQ_rt, wp_noEx, g_0, g_s, s_0, s_s, s_t2, bb, zz, tru_bl, noEx_j, isi_list, isi_int, isi_bool, q_ll, q_llb, lenOk_of, b_add, b_sub, b_mul, b_div, b_mod, b_pow, mulOk_r, mulOk_l, divOk_of, c_lt, c_le, c_gt, c_ge, c_eq, c_ne, c_in, c_ni, dIn_dic, x_lst, x_scr, x_dic, l_lst, l_scr, l_abs, l_int, l_list, l_tup, l_sorted, l_sortedk, i_int, q_lst, q_lstp, q_b, q_bp, q_tup, q_tupp, a_app, a_put, t_0, t_s, rng_of, li_zz, li_bb, li_clean, li_z, pr_zz, pr_bb, pr_clean, pr_z, ll_zz, ll_bb, ll_cleanO, ll_cleanZ, ll_z, clean, isZ, isZs, cleans, zzs, bbs, Fl.bb, dIn_li, dEq_li, dEq_pr, dEq_ll, dEq_int, taint, taints, li_taint, pr_taint, ll_taint, Fl.tt, li_len, pr_len, ll_len, keyOf, List.map_cons, List.map_nil, List.length_cons, List.length_nil, List.set_cons_zero, List.set_cons_succ, Option.map_some]
  have h2 : 0 < m := by omega
  have h3 : 0 ≤ x % m := Int.emod_nonneg _ (by omega)
  have h4 : x % m < m := Int.emod_lt_of_pos _ h2
  simp [h2, h3, h4, evSs, evS, evE, evEs, evP, evO, evTo, evT, evAnd, evOr, evTA, evTO, evIt, wp_bind, wp_nx, wp_if, wp_ok, wp_st, ok_bind, ok_nx, ok_rt, EV.R.of_some, rof_if, nxQ_nx, nxQ_rt, wp_noEx, g_0, g_s, s_0, s_s, s_t2, bb, zz, tru_bl, noEx_j, isi_list, isi_int, isi_bool, q_ll, q_llb, lenOk_of, b_add, b_sub, b_mul, b_div, b_mod, b_pow, mulOk_r, mulOk_l, divOk_of, c_lt, c_le, c_gt, c_ge, c_eq, c_ne, c_in, c_ni, dIn_dic, x_lst, x_scr, x_dic, l_lst, l_scr, l_abs, l_int, l_list, l_tup, l_sorted, l_sortedk, i_int, q_lst, q_lstp, q_b, q_bp, q_tup, q_tupp, a_app, a_put, t_0, t_s, rng_of, li_zz, li_bb, li_clean, li_z, pr_zz, pr_bb, pr_clean, pr_z, ll_zz, ll_bb, ll_cleanO, ll_cleanZ, ll_z, clean, isZ, isZs, cleans, zzs, bbs, Fl.bb, dIn_li, dEq_li, dEq_pr, dEq_ll, dEq_int, taint, taints, li_taint, pr_taint, ll_taint, Fl.tt, li_len, pr_len, ll_len, keyOf, List.map_cons, List.map_nil, List.length_cons, List.length_nil, List.set_cons_zero, List.set_cons_succ, Option.map_some]
noncomputable def pk (L : List Int) (k m : Int) : Int := match F8.sem [.lst .z (li L), .int k, .int m] with
  | .ok (.int r) => r
  | _ => 0
theorem pick_all (L : List Int) (k m : Int) : F8.sem [.lst .z (li L), .int k, .int m] = .ok (.int (pk L k m)) ∧ 0 ≤ pk L k m ∧ (pk L k m < m ∨ pk L k m = 0) := by
  obtain ⟨d, e, r, rfl, h⟩ := pick_wp L k m
  have : pk L k m = r := by unfold pk; rw [e]
  rw [this]
  exact ⟨e, h⟩
theorem pick_call (L : List Int) (k m : Int) : callD F8 [.lst .z (li L), .int k, .int m] = .ok (.int (pk L k m)) := by
  rw [callD_z rfl (by simp [isZs, isZ, li_z])]
  exact (pick_all L k m).1
def I9 (L : List Int) (m : Int) (i : Nat) (e : EV.Env) : Prop := ∃ (P : List Int) (v w : Option D), e = [some (.lst .z (li L)), some (.int m), some (.lst .o (li P)), v, w] ∧ P.Nodup ∧ P.length ≤ i
theorem points_ok (L : List Int) (m : Int) (hm0 : 0 ≤ m) (hm : m ≤ 40) : Wp (F9.sem [.lst .z (li L), .int m]) fun d => ∃ P : List Int, d = .lst .o (li P) ∧ P.Nodup ∧ (P.length : Int) ≤ m := by
  obtain ⟨_, h0, h1⟩ := pick_all L 0 (m + 1)
  simp [F9, runF, dr9, evSs, evS, evE, evEs, evP, evO, evTo, evT, evAnd, evOr, evTA, evTO, evIt, wp_bind, wp_nx, wp_if, wp_ok, wp_st, ok_bind, ok_nx, ok_rt, EV.R.of_some, rof_if, nxQ_nx, nxQ_rt, wp_noEx, g_0, g_s, s_0, s_s, s_t2, bb, zz, tru_bl, noEx_j, isi_list, isi_int, isi_bool, q_ll, q_llb, lenOk_of, b_add, b_sub, b_mul, b_div, b_mod, b_pow, mulOk_r, mulOk_l, divOk_of, c_lt, c_le, c_gt, c_ge, c_eq, c_ne, c_in, c_ni, dIn_dic, x_lst, x_scr, x_dic, l_lst, l_scr, l_abs, l_int, l_list, l_tup, l_sorted, l_sortedk, i_int, q_lst, q_lstp, q_b, q_bp, q_tup, q_tupp, a_app, a_put, t_0, t_s, rng_of, li_zz, li_bb, li_clean, li_z, pr_zz, pr_bb, pr_clean, pr_z, ll_zz, ll_bb, ll_cleanO, ll_cleanZ, ll_z, clean, isZ, isZs, cleans, zzs, bbs, Fl.bb, dIn_li, dEq_li, dEq_pr, dEq_ll, dEq_int, taint, taints, li_taint, pr_taint, ll_taint, Fl.tt, li_len, pr_len, ll_len, keyOf, List.map_cons, List.map_nil, List.length_cons, List.length_nil, List.set_cons_zero, List.set_cons_succ, Option.map_some, t9_8, pick_call]
  refine ⟨fun _ => ?_, rng_of (by omega) (by omega)⟩
  refine wp_for (I9 L m) ⟨[], _, _, rfl, by simp, by simp⟩ ?_ ?_
  · rintro i d e hi ⟨P, v, w, rfl, hn, hl⟩
    obtain ⟨rfl, hi2⟩ := range_get hi
    have hs : P.length < sizeLine := by show P.length < 16777216; omega
    simp [evSs, evS, evE, evEs, evP, evO, evTo, evT, evAnd, evOr, evTA, evTO, evIt, wp_bind, wp_nx, wp_if, wp_ok, wp_st, ok_bind, ok_nx, ok_rt, EV.R.of_some, rof_if, nxQ_nx, nxQ_rt, wp_noEx, g_0, g_s, s_0, s_s, s_t2, bb, zz, tru_bl, noEx_j, isi_list, isi_int, isi_bool, q_ll, q_llb, lenOk_of, b_add, b_sub, b_mul, b_div, b_mod, b_pow, mulOk_r, mulOk_l, divOk_of, c_lt, c_le, c_gt, c_ge, c_eq, c_ne, c_in, c_ni, dIn_dic, x_lst, x_scr, x_dic, l_lst, l_scr, l_abs, l_int, l_list, l_tup, l_sorted, l_sortedk, i_int, q_lst, q_lstp, q_b, q_bp, q_tup, q_tupp, a_app, a_put, t_0, t_s, rng_of, li_zz, li_bb, li_clean, li_z, pr_zz, pr_bb, pr_clean, pr_z, ll_zz, ll_bb, ll_cleanO, ll_cleanZ, ll_z, clean, isZ, isZs, cleans, zzs, bbs, Fl.bb, dIn_li, dEq_li, dEq_pr, dEq_ll, dEq_int, taint, taints, li_taint, pr_taint, ll_taint, Fl.tt, li_len, pr_len, ll_len, keyOf, List.map_cons, List.map_nil, List.length_cons, List.length_nil, List.set_cons_zero, List.set_cons_succ, Option.map_some, t9_8, pick_call, hs]
    refine ⟨fun h => post_nx ⟨P, _, _, rfl, hn, by omega⟩, fun h => post_nx ⟨P ++ [_], _, _, by rw [li_app], ?_, by simp; omega⟩⟩
    rw [List.nodup_append]
    exact ⟨hn, by simp, by rintro a ha b hb rfl; simp at hb; exact h (hb ▸ ha)⟩
  · rintro e ⟨P, v, w, rfl, hn, hl⟩
    rw [range_len] at hl
    simp [evSs, evS, evE, evEs, evP, evO, evTo, evT, evAnd, evOr, evTA, evTO, evIt, wp_bind, wp_nx, wp_if, wp_ok, wp_st, ok_bind, ok_nx, ok_rt, EV.R.of_some, rof_if, nxQ_nx, nxQ_rt, wp_noEx, g_0, g_s, s_0, s_s, s_t2, bb, zz, tru_bl, noEx_j, isi_list, isi_int, isi_bool, q_ll, q_llb, lenOk_of, b_add, b_sub, b_mul, b_div, b_mod, b_pow, mulOk_r, mulOk_l, divOk_of, c_lt, c_le, c_gt, c_ge, c_eq, c_ne, c_in, c_ni, dIn_dic, x_lst, x_scr, x_dic, l_lst, l_scr, l_abs, l_int, l_list, l_tup, l_sorted, l_sortedk, i_int, q_lst, q_lstp, q_b, q_bp, q_tup, q_tupp, a_app, a_put, t_0, t_s, rng_of, li_zz, li_bb, li_clean, li_z, pr_zz, pr_bb, pr_clean, pr_z, ll_zz, ll_bb, ll_cleanO, ll_cleanZ, ll_z, clean, isZ, isZs, cleans, zzs, bbs, Fl.bb, dIn_li, dEq_li, dEq_pr, dEq_ll, dEq_int, taint, taints, li_taint, pr_taint, ll_taint, Fl.tt, li_len, pr_len, ll_len, keyOf, List.map_cons, List.map_nil, List.length_cons, List.length_nil, List.set_cons_zero, List.set_cons_succ, Option.map_some]
    exact ⟨P, rfl, hn, by omega⟩
theorem end_wp (L P : List Int) (k : Int) : Wp (F10.sem [.lst .z (li L), .int k, .lst .z (li P)]) fun d => ∃ r, d = .int r := by
  simp [F10, runF, dr10, evSs, evS, evE, evEs, evP, evO, evTo, evT, evAnd, evOr, evTA, evTO, evIt, wp_bind, wp_nx, wp_if, wp_ok, wp_st, ok_bind, ok_nx, ok_rt, EV.R.of_some, rof_if, nxQ_nx, nxQ_rt, wp_noEx, g_0, g_s, s_0, s_s, s_t2, bb, zz, tru_bl, noEx_j, isi_list, isi_int, isi_bool, q_ll, q_llb, lenOk_of, b_add, b_sub, b_mul, b_div, b_mod, b_pow, mulOk_r, mulOk_l, divOk_of, c_lt, c_le, c_gt, c_ge, c_eq, c_ne, c_in, c_ni, dIn_dic, x_lst, x_scr, x_dic, l_lst, l_scr, l_abs, l_int, l_list, l_tup, l_sorted, l_sortedk, i_int, q_lst, q_lstp, q_b, q_bp, q_tup, q_tupp, a_app, a_put, t_0, t_s, rng_of, li_zz, li_bb, li_clean, li_z, pr_zz, pr_bb, pr_clean, pr_z, ll_zz, ll_bb, ll_cleanO, ll_cleanZ, ll_z, clean, isZ, isZs, cleans, zzs, bbs, Fl.bb, dIn_li, dEq_li, dEq_pr, dEq_ll, dEq_int, taint, taints, li_taint, pr_taint, ll_taint, Fl.tt, li_len, pr_len, ll_len, keyOf, List.map_cons, List.map_nil, List.length_cons, List.length_nil, List.set_cons_zero, List.set_cons_succ, Option.map_some, t10_8, pick_call]
  intro h1 h2
  obtain ⟨_, h3, h4⟩ := pick_all L (k + 1) P.length
  obtain ⟨x, hx, e⟩ := atI_li (L := P) (i := pk L (k + 1) P.length) h3 (by have := List.length_pos_iff.mpr h1; omega)
  simp [e, evSs, evS, evE, evEs, evP, evO, evTo, evT, evAnd, evOr, evTA, evTO, evIt, wp_bind, wp_nx, wp_if, wp_ok, wp_st, ok_bind, ok_nx, ok_rt, EV.R.of_some, rof_if, nxQ_nx, nxQ_rt, wp_noEx, g_0, g_s, s_0, s_s, s_t2, bb, zz, tru_bl, noEx_j, isi_list, isi_int, isi_bool, q_ll, q_llb, lenOk_of, b_add, b_sub, b_mul, b_div, b_mod, b_pow, mulOk_r, mulOk_l, divOk_of, c_lt, c_le, c_gt, c_ge, c_eq, c_ne, c_in, c_ni, dIn_dic, x_lst, x_scr, x_dic, l_lst, l_scr, l_abs, l_int, l_list, l_tup, l_sorted, l_sortedk, i_int, q_lst, q_lstp, q_b, q_bp, q_tup, q_tupp, a_app, a_put, t_0, t_s, rng_of, li_zz, li_bb, li_clean, li_z, pr_zz, pr_bb, pr_clean, pr_z, ll_zz, ll_bb, ll_cleanO, ll_cleanZ, ll_z, clean, isZ, isZs, cleans, zzs, bbs, Fl.bb, dIn_li, dEq_li, dEq_pr, dEq_ll, dEq_int, taint, taints, li_taint, pr_taint, ll_taint, Fl.tt, li_len, pr_len, ll_len, keyOf, List.map_cons, List.map_nil, List.length_cons, List.length_nil, List.set_cons_zero, List.set_cons_succ, Option.map_some]
noncomputable def en (L P : List Int) (k : Int) : Int := match F10.sem [.lst .z (li L), .int k, .lst .z (li P)] with
  | .ok (.int r) => r
  | _ => 0
theorem end_call (L P : List Int) (k : Int) : callD F10 [.lst .z (li L), .int k, .lst .z (li P)] = .ok (.int (en L P k)) := by
  rw [callD_z rfl (by simp [isZs, isZ, li_z])]
  obtain ⟨d, e, r, rfl⟩ := end_wp L P k
  have : en L P k = r := by unfold en; rw [e]
  rw [this]
  exact e
end K36
namespace K36
open PySem L2 EV
/-! ### neighbour_lists -/
/-- the dict from points to lists -/
def nb (f : Fl) (P : List Int) (h : Int → List Int) : List D := P.map fun p => .lst f (li (h p))
def kn (P : List Int) : List Key := P.map .inl
theorem nb_bb (f : Fl) (h : Int → List Int) : ∀ P : List Int, bbs (nb f P h) = nb f.bb P h
  | [] => rfl | x :: L => by
    show D.lst f.bb (bbs (li (h x))) :: bbs (nb f L h) = _
    rw [li_bb, nb_bb f h L]; rfl
theorem nb_zz (f : Fl) (h : Int → List Int) : ∀ P : List Int, zzs (nb f P h) = nb .z P h
  | [] => rfl | x :: L => by
    show D.lst .z (zzs (li (h x))) :: zzs (nb f L h) = _
    rw [li_zz, nb_zz f h L]; rfl
theorem nb_taintO (h : Int → List Int) : ∀ P : List Int, taints (nb .o P h) = nb .o P h
  | [] => rfl | x :: L => by
    show D.lst .o (taints (li (h x))) :: taints (nb .o L h) = _
    rw [li_taint, nb_taintO h L]; rfl
theorem nb_clean (h : Int → List Int) : ∀ P : List Int, cleans (nb .o P h) = true
  | [] => rfl | x :: L => by
    show ((true && cleans (li (h x))) && cleans (nb .o L h)) = true
    rw [li_clean, nb_clean h L]; rfl
theorem look_nb {f : Fl} {h : Int → List Int} {x : Int} : ∀ {P : List Int}, lookK (kn P) (nb f P h) (.inl x) = if x ∈ P then some (.lst f (li (h x))) else none
  | [] => rfl
  | p :: P => by
    show (if (Sum.inl p : Key) = .inl x then some (D.lst f (li (h p))) else lookK (kn P) (nb f P h) (.inl x)) = _
    by_cases e : p = x
    · subst e; simp
    · have e1 : ¬(Sum.inl p : Key) = .inl x := fun z => e (Sum.inl.inj z)
      have e2 : ¬x = p := fun z => e z.symm
      rw [if_neg e1, look_nb]; simp [e2]
theorem set_nb {f : Fl} {h : Int → List Int} {x : Int} {l : List Int} : ∀ {P : List Int}, setL (.inl x) (.lst f (li l)) (kn P) (nb f P h) = nb f P fun p => if p = x then l else h p
  | [] => rfl
  | p :: P => by
    show (if (Sum.inl p : Key) = .inl x then D.lst f (li l) :: setL (.inl x) (.lst f (li l)) (kn P) (nb f P h) else D.lst f (li (h p)) :: setL (.inl x) (.lst f (li l)) (kn P) (nb f P h)) = _
    rw [set_nb]
    by_cases e : p = x
    · subst e; simp [nb]
    · have e1 : ¬(Sum.inl p : Key) = .inl x := fun z => e (Sum.inl.inj z)
      rw [if_neg e1]; simp [nb, e]
def up (h : Int → List Int) (a x : Int) : Int → List Int := fun p => if p = a then h a ++ [x] else h p
theorem app_nb {P : List Int} {h : Int → List Int} {a x : Int} {env : EV.Env} (ha : a ∈ P) (hl : (h a).length < sizeLine) :
    atO (some (.dic .o (kn P) (nb .o P h)) :: env) 0 [.int a] (fun t => appO t (.int x)) = .ok (some (.dic .o (kn P) (nb .o P (up h a x))) :: env) := by
  have e1 : stepO (.dic .o (kn P) (nb .o P h)) (.int a) = some (.lst .o (li (h a))) := by
    show lookK (kn P) (nb .o P h) (.inl a) = _
    rw [look_nb, if_pos ha]
  have e2 : appO (.lst .o (li (h a))) (.int x) = some (.lst .o (li (h a ++ [x]))) := by
    rw [a_app, li_len, if_pos hl, li_app]
  have e3 : setO (.dic .o (kn P) (nb .o P h)) [.int a] (.lst .o (li (h a ++ [x]))) = .dic .o (kn P) (nb .o P (up h a x)) := by
    show putO (.dic .o (kn P) (nb .o P h)) (.int a) (.lst .o (li (h a ++ [x]))) = _
    show D.dic .o (kn P) (setL (.inl a) (.lst .o (li (h a ++ [x]))) (kn P) (nb .o P h)) = _
    rw [set_nb]; rfl
  unfold atO
  rw [g_0, ok_bind]
  show ((R.of (((some (D.dic .o (kn P) (nb .o P h))).bind fun e => stepO e (.int a)).bind fun t => appO t (.int x))).bind fun e => _) = _
  rw [Option.bind_some, e1, Option.bind_some, e2, R.of_some, ok_bind, e3]; rfl
/-- one tie -/
def adS (P : List Int) (h : Int → List Int) (t : Int × Int) : Int → List Int := if t.1 ∈ P ∧ t.2 ∈ P then up (up h t.1 t.2) t.2 t.1 else h
def adj (P : List Int) (T : List (Int × Int)) : Int → List Int := T.foldl (adS P) fun _ => []
theorem dcomp_nb {turn : D → EV.R (Key × D)} (ht : ∀ p : Int, turn (.int p) = .ok (.inl p, .lst .o [])) : ∀ (P Q : List Int), (Q ++ P).Nodup → (Q ++ P).length ≤ sizeLine →
    dcompL turn (li P) (kn Q) (nb .o Q fun _ => []) = .ok (kn (Q ++ P), nb .o (Q ++ P) fun _ => [])
  | [], Q, _, _ => by simp [li, dcompL]
  | p :: P, Q, hn, hl => by
    have hp : p ∉ Q := fun h => by
      rw [List.nodup_append] at hn
      exact hn.2.2 p h p (by simp) rfl
    have hm : memK (Sum.inl p : Key) (kn Q) = false := by
      unfold memK kn
      simp [hp]
    have e1 : kn Q ++ [.inl p] = kn (Q ++ [p]) := by simp [kn]
    have e2 : nb .o Q (fun _ => []) ++ [.lst .o []] = nb .o (Q ++ [p]) fun _ => [] := by simp [nb, li]
    show dcompL turn (.int p :: li P) _ _ = _
    rw [dcompL, ht, ok_bind]
    have hk : (kn Q).length < sizeLine := by simp [kn]; simp at hl; omega
    rw [if_pos (by simp [hm, hk, clean, cleans])]
    show dcompL turn (li P) (kn Q ++ [.inl p]) (nb .o Q (fun _ => []) ++ [.lst .o []]) = _
    rw [e1, e2, dcomp_nb ht P (Q ++ [p]) (by simpa using hn) (by simpa using hl)]
    simp
theorem up_len {h : Int → List Int} {a x : Int} {n : Nat} (hl : ∀ p, (h p).length ≤ n) : ∀ p, (up h a x p).length ≤ n + 1 := fun p => by
  unfold up
  have := hl p
  have := hl a
  split
  · simp; omega
  · omega
theorem adS_in {P : List Int} {h : Int → List Int} {t : Int × Int} (h1 : t.1 ∈ P) (h2 : t.2 ∈ P) : adS P h t = up (up h t.1 t.2) t.2 t.1 := if_pos ⟨h1, h2⟩
theorem adS_out {P : List Int} {h : Int → List Int} {t : Int × Int} (h1 : ¬(t.1 ∈ P ∧ t.2 ∈ P)) : adS P h t = h := if_neg h1
theorem adS_len {P : List Int} {h : Int → List Int} {t : Int × Int} {n : Nat} (hl : ∀ p, (h p).length ≤ n) : ∀ p, (adS P h t p).length ≤ n + 2 := fun p => by
  by_cases c : t.1 ∈ P ∧ t.2 ∈ P
  · rw [adS_in c.1 c.2]
    exact up_len (up_len hl) p
  · rw [adS_out c]; have := hl p; omega
theorem adj_snoc {P : List Int} {T : List (Int × Int)} {t : Int × Int} : adj P (T ++ [t]) = adS P (adj P T) t := by simp [adj, List.foldl_append]
theorem take_succ' {α : Type} {T : List α} {i : Nat} {t : α} (h : T[i]? = some t) : T.take (i + 1) = T.take i ++ [t] := by
  rw [List.take_succ, h]; rfl
def I0 (X Y : D) (P : List Int) (T : List (Int × Int)) (i : Nat) (e : EV.Env) : Prop := ∃ (v w u : Option D), e = [some X, some Y, some (.dic .o (kn P) (nb .o P (adj P (T.take i)))), v, w, u] ∧ ∀ p, (adj P (T.take i) p).length ≤ 2 * i
theorem near_ok {X Y : D} {P : List Int} {T : List (Int × Int)} (hX : X = .lst .z (li P) ∨ X = .tup (li P)) (hY : Y = .lst .z (pr T) ∨ Y = .tup (pr T)) (hn : P.Nodup) (hP : P.length ≤ 14) (hT : T.length ≤ 14) :
    F0.sem [X, Y] = .ok (.dic .o (kn P) (nb .o P (adj P T))) := by
  have sX : ∀ (lv : Bool), seqOf lv (bb X) = some (li P) := fun lv => by
    rcases hX with rfl | rfl
    · simp [bb, li_bb, Fl.bb, q_lst]
    · simp [bb, li_bb, q_tup]
  have sY : ∀ (lv : Bool), seqOf lv (bb Y) = some (pr T) := fun lv => by
    rcases hY with rfl | rfl
    · simp [bb, pr_bb, Fl.bb, q_lstp]
    · simp [bb, pr_bb, q_tupp]
  have hPs : P.length ≤ sizeLine := by show P.length ≤ 16777216; omega
  have key := dcomp_nb (turn := fun d => noEx ((setTg (.name 5) d (wipeE [some X, some Y, none, none, none, none] [5])).bind fun env' => (evE T0 (.slot 5) env').bind fun x => (R.of (keyOf x)).bind fun q => (evE T0 (.lst .nil) env').bind fun y => .ok (q, y)))
    (fun p => by simp [wipeE, evSs, evS, evE, evEs, evP, evO, evTo, evT, evAnd, evOr, evTA, evTO, evIt, wp_bind, wp_nx, wp_if, wp_ok, wp_st, ok_bind, ok_nx, ok_rt, EV.R.of_some, rof_if, nxQ_nx, nxQ_rt, wp_noEx, g_0, g_s, s_0, s_s, s_t2, bb, zz, tru_bl, noEx_j, isi_list, isi_int, isi_bool, q_ll, q_llb, lenOk_of, b_add, b_sub, b_mul, b_div, b_mod, b_pow, mulOk_r, mulOk_l, divOk_of, c_lt, c_le, c_gt, c_ge, c_eq, c_ne, c_in, c_ni, dIn_dic, x_lst, x_scr, x_dic, l_lst, l_scr, l_abs, l_int, l_list, l_tup, l_sorted, l_sortedk, i_int, q_lst, q_lstp, q_b, q_bp, q_tup, q_tupp, a_app, a_put, t_0, t_s, rng_of, li_zz, li_bb, li_clean, li_z, pr_zz, pr_bb, pr_clean, pr_z, ll_zz, ll_bb, ll_cleanO, ll_cleanZ, ll_z, clean, isZ, isZs, cleans, zzs, bbs, Fl.bb, dIn_li, dEq_li, dEq_pr, dEq_ll, dEq_int, taint, taints, li_taint, pr_taint, ll_taint, Fl.tt, li_len, pr_len, ll_len, keyOf, List.map_cons, List.map_nil, List.length_cons, List.length_nil, List.set_cons_zero, List.set_cons_succ, Option.map_some]) P [] (by simpa using hn) (by simpa using hPs)
  refine wp_eq ?_
  have key2 : evE T0 (.dcomp (.seq (.slot 0)) (.name 5) [5] (.slot 5) (.lst .nil)) [some X, some Y, none, none, none, none] = .ok (.dic .o (kn P) (nb .o P fun _ => [])) := by
    simp only [evE, evIt, g_0, ok_bind, sX, R.of_some]
    have : (!Tg.within (.name 5) [5]) = false := rfl
    rw [this]
    have key3 := key
    simp only [evE, List.nil_append] at key3
    show R.bind (dcompL _ (li P) [] []) _ = _
    rw [show ([] : List Key) = kn [] from rfl, show ([] : List D) = nb .o [] (fun _ => []) from rfl]
    rw [key3]; rfl
  show Wp (noEx (runF T0 6 dr0.body [X, Y])) _
  rw [wp_noEx]
  unfold runF dr0
  show Wp (R.bind (evSs T0 _ [some X, some Y, none, none, none, none]) _) _
  rw [wp_bind, evSs, wp_nx, evS, key2]
  simp [evSs, evS, evE, evEs, evP, evO, evTo, evT, evAnd, evOr, evTA, evTO, evIt, wp_bind, wp_nx, wp_if, wp_ok, wp_st, ok_bind, ok_nx, ok_rt, EV.R.of_some, rof_if, nxQ_nx, nxQ_rt, wp_noEx, g_0, g_s, s_0, s_s, s_t2, bb, zz, tru_bl, noEx_j, isi_list, isi_int, isi_bool, q_ll, q_llb, lenOk_of, b_add, b_sub, b_mul, b_div, b_mod, b_pow, mulOk_r, mulOk_l, divOk_of, c_lt, c_le, c_gt, c_ge, c_eq, c_ne, c_in, c_ni, dIn_dic, x_lst, x_scr, x_dic, l_lst, l_scr, l_abs, l_int, l_list, l_tup, l_sorted, l_sortedk, i_int, q_lst, q_lstp, q_b, q_bp, q_tup, q_tupp, a_app, a_put, t_0, t_s, rng_of, li_zz, li_bb, li_clean, li_z, pr_zz, pr_bb, pr_clean, pr_z, ll_zz, ll_bb, ll_cleanO, ll_cleanZ, ll_z, clean, isZ, isZs, cleans, zzs, bbs, Fl.bb, dIn_li, dEq_li, dEq_pr, dEq_ll, dEq_int, taint, taints, li_taint, pr_taint, ll_taint, Fl.tt, li_len, pr_len, ll_len, keyOf, List.map_cons, List.map_nil, List.length_cons, List.length_nil, List.set_cons_zero, List.set_cons_succ, Option.map_some, nb_clean, sY]
  refine wp_for (I0 X Y P T) ⟨_, _, _, rfl, fun _ => by simp [adj]⟩ ?_ ?_
  · rintro i d e hi ⟨v, w, u, rfl, hl⟩
    rw [pr_get] at hi
    cases ht : T[i]? with
    | none => rw [ht] at hi; cases hi
    | some t =>
      rw [ht] at hi
      cases hi
      have hi2 : i < T.length := (List.getElem?_eq_some_iff.mp ht).1
      have e1 : adj P (T.take (i + 1)) = adS P (adj P (T.take i)) t := by rw [take_succ' ht, adj_snoc]
      have hl2 : ∀ p, (adj P (T.take (i + 1)) p).length ≤ 2 * (i + 1) := fun p => by
        rw [e1]; have := adS_len (P := P) (t := t) hl p; omega
      have hs : ∀ p, (adj P (T.take i) p).length < sizeLine := fun p => by have := hl p; show _ < 16777216; omega
      simp [evSs, evS, evE, evEs, evP, evO, evTo, evT, evAnd, evOr, evTA, evTO, evIt, wp_bind, wp_nx, wp_if, wp_ok, wp_st, ok_bind, ok_nx, ok_rt, EV.R.of_some, rof_if, nxQ_nx, nxQ_rt, wp_noEx, g_0, g_s, s_0, s_s, s_t2, bb, zz, tru_bl, noEx_j, isi_list, isi_int, isi_bool, q_ll, q_llb, lenOk_of, b_add, b_sub, b_mul, b_div, b_mod, b_pow, mulOk_r, mulOk_l, divOk_of, c_lt, c_le, c_gt, c_ge, c_eq, c_ne, c_in, c_ni, dIn_dic, x_lst, x_scr, x_dic, l_lst, l_scr, l_abs, l_int, l_list, l_tup, l_sorted, l_sortedk, i_int, q_lst, q_lstp, q_b, q_bp, q_tup, q_tupp, a_app, a_put, t_0, t_s, rng_of, li_zz, li_bb, li_clean, li_z, pr_zz, pr_bb, pr_clean, pr_z, ll_zz, ll_bb, ll_cleanO, ll_cleanZ, ll_z, clean, isZ, isZs, cleans, zzs, bbs, Fl.bb, dIn_li, dEq_li, dEq_pr, dEq_ll, dEq_int, taint, taints, li_taint, pr_taint, ll_taint, Fl.tt, li_len, pr_len, ll_len, keyOf, List.map_cons, List.map_nil, List.length_cons, List.length_nil, List.set_cons_zero, List.set_cons_succ, Option.map_some, nb_bb, look_nb]
      refine ⟨fun h1 => ⟨fun h2 => ?_, fun h2 => ?_⟩, fun h1 => ?_⟩
      · have hs2 : (up (adj P (T.take i)) t.1 t.2 t.2).length < sizeLine := by
          unfold up
          split
          · have := hl t.1; simp; show _ < 16777216; omega
          · exact hs _
        rw [app_nb h1 (hs _)]
        simp [evSs, evS, evE, evEs, evP, evO, evTo, evT, evAnd, evOr, evTA, evTO, evIt, wp_bind, wp_nx, wp_if, wp_ok, wp_st, ok_bind, ok_nx, ok_rt, EV.R.of_some, rof_if, nxQ_nx, nxQ_rt, wp_noEx, g_0, g_s, s_0, s_s, s_t2, bb, zz, tru_bl, noEx_j, isi_list, isi_int, isi_bool, q_ll, q_llb, lenOk_of, b_add, b_sub, b_mul, b_div, b_mod, b_pow, mulOk_r, mulOk_l, divOk_of, c_lt, c_le, c_gt, c_ge, c_eq, c_ne, c_in, c_ni, dIn_dic, x_lst, x_scr, x_dic, l_lst, l_scr, l_abs, l_int, l_list, l_tup, l_sorted, l_sortedk, i_int, q_lst, q_lstp, q_b, q_bp, q_tup, q_tupp, a_app, a_put, t_0, t_s, rng_of, li_zz, li_bb, li_clean, li_z, pr_zz, pr_bb, pr_clean, pr_z, ll_zz, ll_bb, ll_cleanO, ll_cleanZ, ll_z, clean, isZ, isZs, cleans, zzs, bbs, Fl.bb, dIn_li, dEq_li, dEq_pr, dEq_ll, dEq_int, taint, taints, li_taint, pr_taint, ll_taint, Fl.tt, li_len, pr_len, ll_len, keyOf, List.map_cons, List.map_nil, List.length_cons, List.length_nil, List.set_cons_zero, List.set_cons_succ, Option.map_some]
        rw [app_nb h2 hs2]
        simp [evSs, evS, evE, evEs, evP, evO, evTo, evT, evAnd, evOr, evTA, evTO, evIt, wp_bind, wp_nx, wp_if, wp_ok, wp_st, ok_bind, ok_nx, ok_rt, EV.R.of_some, rof_if, nxQ_nx, nxQ_rt, wp_noEx, g_0, g_s, s_0, s_s, s_t2, bb, zz, tru_bl, noEx_j, isi_list, isi_int, isi_bool, q_ll, q_llb, lenOk_of, b_add, b_sub, b_mul, b_div, b_mod, b_pow, mulOk_r, mulOk_l, divOk_of, c_lt, c_le, c_gt, c_ge, c_eq, c_ne, c_in, c_ni, dIn_dic, x_lst, x_scr, x_dic, l_lst, l_scr, l_abs, l_int, l_list, l_tup, l_sorted, l_sortedk, i_int, q_lst, q_lstp, q_b, q_bp, q_tup, q_tupp, a_app, a_put, t_0, t_s, rng_of, li_zz, li_bb, li_clean, li_z, pr_zz, pr_bb, pr_clean, pr_z, ll_zz, ll_bb, ll_cleanO, ll_cleanZ, ll_z, clean, isZ, isZs, cleans, zzs, bbs, Fl.bb, dIn_li, dEq_li, dEq_pr, dEq_ll, dEq_int, taint, taints, li_taint, pr_taint, ll_taint, Fl.tt, li_len, pr_len, ll_len, keyOf, List.map_cons, List.map_nil, List.length_cons, List.length_nil, List.set_cons_zero, List.set_cons_succ, Option.map_some]
        exact post_nx ⟨_, _, _, by rw [e1, adS_in h1 h2], hl2⟩
      · exact post_nx ⟨_, _, _, by rw [e1, adS_out fun z => h2 z.2], hl2⟩
      · exact post_nx ⟨_, _, _, by rw [e1, adS_out fun z => h1 z.1], hl2⟩
  · rintro e ⟨v, w, u, rfl, hl⟩
    rw [pr_len, List.take_length]
    simp [evSs, evS, evE, evEs, evP, evO, evTo, evT, evAnd, evOr, evTA, evTO, evIt, wp_bind, wp_nx, wp_if, wp_ok, wp_st, ok_bind, ok_nx, ok_rt, EV.R.of_some, rof_if, nxQ_nx, nxQ_rt, wp_noEx, g_0, g_s, s_0, s_s, s_t2, bb, zz, tru_bl, noEx_j, isi_list, isi_int, isi_bool, q_ll, q_llb, lenOk_of, b_add, b_sub, b_mul, b_div, b_mod, b_pow, mulOk_r, mulOk_l, divOk_of, c_lt, c_le, c_gt, c_ge, c_eq, c_ne, c_in, c_ni, dIn_dic, x_lst, x_scr, x_dic, l_lst, l_scr, l_abs, l_int, l_list, l_tup, l_sorted, l_sortedk, i_int, q_lst, q_lstp, q_b, q_bp, q_tup, q_tupp, a_app, a_put, t_0, t_s, rng_of, li_zz, li_bb, li_clean, li_z, pr_zz, pr_bb, pr_clean, pr_z, ll_zz, ll_bb, ll_cleanO, ll_cleanZ, ll_z, clean, isZ, isZs, cleans, zzs, bbs, Fl.bb, dIn_li, dEq_li, dEq_pr, dEq_ll, dEq_int, taint, taints, li_taint, pr_taint, ll_taint, Fl.tt, li_len, pr_len, ll_len, keyOf, List.map_cons, List.map_nil, List.length_cons, List.length_nil, List.set_cons_zero, List.set_cons_succ, Option.map_some]
end K36
namespace K36
open PySem L2 EV
theorem mem_up {h : Int → List Int} {a y p x : Int} : x ∈ up h a y p ↔ x ∈ h p ∨ (p = a ∧ x = y) := by
  unfold up
  split
  · rename_i e; subst e; simp
  · rename_i e; simp [e]
theorem mem_adS {P : List Int} {h : Int → List Int} {t : Int × Int} {p x : Int} : x ∈ adS P h t p ↔ x ∈ h p ∨ ((t.1 ∈ P ∧ t.2 ∈ P) ∧ ((p = t.1 ∧ x = t.2) ∨ (p = t.2 ∧ x = t.1))) := by
  by_cases c : t.1 ∈ P ∧ t.2 ∈ P
  · rw [adS_in c.1 c.2, mem_up, mem_up]
    constructor
    · rintro ((h | h) | h)
      · exact .inl h
      · exact .inr ⟨c, .inl h⟩
      · exact .inr ⟨c, .inr h⟩
    · rintro (h | ⟨_, h | h⟩)
      · exact .inl (.inl h)
      · exact .inl (.inr h)
      · exact .inr h
  · rw [adS_out c]
    exact ⟨.inl, fun h => h.elim id fun z => absurd z.1 c⟩
theorem mem_fold {P : List Int} {p x : Int} : ∀ (T : List (Int × Int)) (h : Int → List Int), x ∈ T.foldl (adS P) h p ↔ x ∈ h p ∨ (((p, x) ∈ T ∨ (x, p) ∈ T) ∧ p ∈ P ∧ x ∈ P)
  | [], h => by simp
  | t :: T, h => by
    rw [List.foldl_cons, mem_fold T, mem_adS]
    obtain ⟨a, b⟩ := t
    simp only [List.mem_cons, Prod.mk.injEq]
    constructor
    · rintro ((h | ⟨⟨h1, h2⟩, ⟨rfl, rfl⟩ | ⟨rfl, rfl⟩⟩) | ⟨h | h, h1, h2⟩)
      · exact .inl h
      · exact .inr ⟨.inl (.inl ⟨rfl, rfl⟩), h1, h2⟩
      · exact .inr ⟨.inr (.inl ⟨rfl, rfl⟩), h2, h1⟩
      · exact .inr ⟨.inl (.inr h), h1, h2⟩
      · exact .inr ⟨.inr (.inr h), h1, h2⟩
    · rintro (h | ⟨(⟨rfl, rfl⟩ | h) | (⟨rfl, rfl⟩ | h), h1, h2⟩)
      · exact .inl (.inl h)
      · exact .inl (.inr ⟨⟨h1, h2⟩, .inl ⟨rfl, rfl⟩⟩)
      · exact .inr ⟨.inl h, h1, h2⟩
      · exact .inl (.inr ⟨⟨h2, h1⟩, .inr ⟨rfl, rfl⟩⟩)
      · exact .inr ⟨.inr h, h1, h2⟩
theorem mem_adj {P : List Int} {T : List (Int × Int)} {p x : Int} : x ∈ adj P T p ↔ ((p, x) ∈ T ∨ (x, p) ∈ T) ∧ p ∈ P ∧ x ∈ P := by
  unfold adj
  rw [mem_fold]
  simp
theorem adj_sym {P : List Int} {T : List (Int × Int)} {p x : Int} (h : x ∈ adj P T p) : p ∈ adj P T x := by
  rw [mem_adj] at h ⊢
  exact ⟨h.1.symm, h.2.2, h.2.1⟩
inductive Rch (h : Int → List Int) (s : Int) : Int → Prop where
  | refl : Rch h s s
  | step {p x : Int} : Rch h s p → x ∈ h p → Rch h s x
theorem nodup_le : ∀ {F P : List Int}, F.Nodup → (∀ x ∈ F, x ∈ P) → F.length ≤ P.length
  | [], P, _, _ => Nat.zero_le _
  | x :: F, P, hn, hs => by
    rw [List.nodup_cons] at hn
    have hx : x ∈ P := hs x (by simp)
    have := nodup_le (F := F) (P := P.erase x) hn.2 fun y hy => by
      have : y ≠ x := fun e => hn.1 (e ▸ hy)
      exact (List.mem_erase_of_ne this).mpr (hs y (by simp [hy]))
    rw [List.length_erase_of_mem hx] at this
    have : 0 < P.length := List.length_pos_of_mem hx
    simp; omega
/-! ### met -/
def mt (F : List Int) : List D := F.map fun _ => .bl true
theorem mt_bb : ∀ F : List Int, bbs (mt F) = mt F
  | [] => rfl | x :: F => congrArg (D.bl true :: ·) (mt_bb F)
theorem look_mt {x : Int} : ∀ {F : List Int}, (lookK (kn F) (mt F) (.inl x)).isSome = decide (x ∈ F)
  | [] => rfl
  | p :: F => by
    show (if (Sum.inl p : Key) = .inl x then some (D.bl true) else lookK (kn F) (mt F) (.inl x)).isSome = _
    by_cases e : p = x
    · subst e; simp
    · have e1 : ¬(Sum.inl p : Key) = .inl x := fun z => e (Sum.inl.inj z)
      have e2 : ¬x = p := fun z => e z.symm
      rw [if_neg e1, look_mt]; simp [e2]
theorem set_mt {x : Int} : ∀ {F : List Int}, setL (Sum.inl x : Key) (D.bl true) (kn F) (mt F) = mt F
  | [] => rfl
  | p :: F => by
    show (if (Sum.inl p : Key) = .inl x then D.bl true :: setL (.inl x) (D.bl true) (kn F) (mt F) else D.bl true :: setL (.inl x) (D.bl true) (kn F) (mt F)) = _
    rw [set_mt]
    split <;> rfl
def ins (F : List Int) (x : Int) : List Int := if x ∈ F then F else F ++ [x]
theorem kn_mem {F : List Int} {x : Int} : (Sum.inl x : Key) ∈ kn F ↔ x ∈ F := by simp [kn]
theorem put_mt {F : List Int} {x : Int} (hl : F.length < sizeLine) : storeO (.dic .o (kn F) (mt F)) (.int x) (.bl true) = some (.dic .o (kn (ins F x)) (mt (ins F x))) := by
  have hk : (kn F).length < sizeLine := by simpa [kn] using hl
  rw [a_put, if_pos hk]
  unfold putKs putDs ins
  by_cases h : x ∈ F
  · rw [if_pos (kn_mem.mpr h), if_pos (kn_mem.mpr h), if_pos h, set_mt]
  · rw [if_neg (mt_of h), if_neg (mt_of h), if_neg h]
    simp [kn, mt]
where mt_of {F : List Int} {x : Int} (h : x ∉ F) : (Sum.inl x : Key) ∉ kn F := fun z => h (kn_mem.mp z)
/-! ### reached_points -/
section
variable (P : List Int) (h : Int → List Int) (s : Int)
/-- what holds of the found points -/
structure Fd (F : List Int) : Prop where
  nd : F.Nodup
  hs : s ∈ F
  sub : ∀ x ∈ F, x ∈ P
  rc : ∀ x ∈ F, Rch h s x
def W1 (k : Nat) (e : EV.Env) : Prop := ∃ (F : List Int) (a : Nat) (v : Option D), e = [some (.dic .z (kn P) (nb .z P h)), some (.int s), some (.lst .o (li F)), some (.dic .o (kn F) (mt F)), some (.int a), v] ∧ Fd P h s F ∧
  (∀ i p, i < a → F[i]? = some p → ∀ x ∈ h p, x ∈ F) ∧ a ≤ F.length ∧ k + a = P.length
def J1 (F0 : List Int) (a : Nat) (xs : List Int) (i : Nat) (e : EV.Env) : Prop := ∃ (G : List Int) (v : Option D), e = [some (.dic .z (kn P) (nb .z P h)), some (.int s), some (.lst .o (li (F0 ++ G))), some (.dic .o (kn (F0 ++ G)) (mt (F0 ++ G))), some (.int a), v] ∧ Fd P h s (F0 ++ G) ∧
  ∀ x ∈ xs.take i, x ∈ F0 ++ G
end
theorem reach_ok {P : List Int} {h : Int → List Int} {s : Int} (hs : s ∈ P) (hh : ∀ p ∈ P, ∀ x ∈ h p, x ∈ P) (hP : P.length ≤ 14) :
    Wp (F1.sem [.dic .z (kn P) (nb .z P h), .int s]) fun d => ∃ F : List Int, d = .lst .o (li F) ∧ Fd P h s F ∧ ∀ p ∈ F, ∀ x ∈ h p, x ∈ F := by
  have z1 : (1000000 : Nat) > P.length := by omega
  simp [F1, runF, dr1, evSs, evS, evE, evEs, evP, evO, evTo, evT, evAnd, evOr, evTA, evTO, evIt, wp_bind, wp_nx, wp_if, wp_ok, wp_st, ok_bind, ok_nx, ok_rt, EV.R.of_some, rof_if, nxQ_nx, nxQ_rt, wp_noEx, g_0, g_s, s_0, s_s, s_t2, bb, zz, tru_bl, noEx_j, isi_list, isi_int, isi_bool, q_ll, q_llb, lenOk_of, b_add, b_sub, b_mul, b_div, b_mod, b_pow, mulOk_r, mulOk_l, divOk_of, c_lt, c_le, c_gt, c_ge, c_eq, c_ne, c_in, c_ni, dIn_dic, x_lst, x_scr, x_dic, l_lst, l_scr, l_abs, l_int, l_list, l_tup, l_sorted, l_sortedk, i_int, q_lst, q_lstp, q_b, q_bp, q_tup, q_tupp, a_app, a_put, t_0, t_s, rng_of, li_zz, li_bb, li_clean, li_z, pr_zz, pr_bb, pr_clean, pr_z, ll_zz, ll_bb, ll_cleanO, ll_cleanZ, ll_z, clean, isZ, isZs, cleans, zzs, bbs, Fl.bb, dIn_li, dEq_li, dEq_pr, dEq_ll, dEq_int, taint, taints, li_taint, pr_taint, ll_taint, Fl.tt, li_len, pr_len, ll_len, keyOf, List.map_cons, List.map_nil, List.length_cons, List.length_nil, List.set_cons_zero, List.set_cons_succ, Option.map_some]
  refine wp_while (I := W1 P h s) (m := P.length) z1 ⟨[s], 0, none, rfl, ⟨by simp, by simp, by simpa using hs, fun x hx => by simp at hx; subst hx; exact .refl⟩, by simp, by simp, rfl⟩ ?_
  rintro k e ⟨F, a, v, rfl, fd, hc, ha, hk⟩
  have hle := nodup_le fd.nd fd.sub
  simp [evSs, evS, evE, evEs, evP, evO, evTo, evT, evAnd, evOr, evTA, evTO, evIt, wp_bind, wp_nx, wp_if, wp_ok, wp_st, ok_bind, ok_nx, ok_rt, EV.R.of_some, rof_if, nxQ_nx, nxQ_rt, wp_noEx, g_0, g_s, s_0, s_s, s_t2, bb, zz, tru_bl, noEx_j, isi_list, isi_int, isi_bool, q_ll, q_llb, lenOk_of, b_add, b_sub, b_mul, b_div, b_mod, b_pow, mulOk_r, mulOk_l, divOk_of, c_lt, c_le, c_gt, c_ge, c_eq, c_ne, c_in, c_ni, dIn_dic, x_lst, x_scr, x_dic, l_lst, l_scr, l_abs, l_int, l_list, l_tup, l_sorted, l_sortedk, i_int, q_lst, q_lstp, q_b, q_bp, q_tup, q_tupp, a_app, a_put, t_0, t_s, rng_of, li_zz, li_bb, li_clean, li_z, pr_zz, pr_bb, pr_clean, pr_z, ll_zz, ll_bb, ll_cleanO, ll_cleanZ, ll_z, clean, isZ, isZs, cleans, zzs, bbs, Fl.bb, dIn_li, dEq_li, dEq_pr, dEq_ll, dEq_int, taint, taints, li_taint, pr_taint, ll_taint, Fl.tt, li_len, pr_len, ll_len, keyOf, List.map_cons, List.map_nil, List.length_cons, List.length_nil, List.set_cons_zero, List.set_cons_succ, Option.map_some]
  by_cases hlt : a < F.length
  · rw [if_pos hlt]
    have e1 : atI (li F) (a : Int) = some (.int F[a]) := by
      rw [atI_ok (by omega) (by rw [li_len]; omega)]
      simp [li]
    have hp : F[a] ∈ P := fd.sub _ (List.getElem_mem _)
    simp [evSs, evS, evE, evEs, evP, evO, evTo, evT, evAnd, evOr, evTA, evTO, evIt, wp_bind, wp_nx, wp_if, wp_ok, wp_st, ok_bind, ok_nx, ok_rt, EV.R.of_some, rof_if, nxQ_nx, nxQ_rt, wp_noEx, g_0, g_s, s_0, s_s, s_t2, bb, zz, tru_bl, noEx_j, isi_list, isi_int, isi_bool, q_ll, q_llb, lenOk_of, b_add, b_sub, b_mul, b_div, b_mod, b_pow, mulOk_r, mulOk_l, divOk_of, c_lt, c_le, c_gt, c_ge, c_eq, c_ne, c_in, c_ni, dIn_dic, x_lst, x_scr, x_dic, l_lst, l_scr, l_abs, l_int, l_list, l_tup, l_sorted, l_sortedk, i_int, q_lst, q_lstp, q_b, q_bp, q_tup, q_tupp, a_app, a_put, t_0, t_s, rng_of, li_zz, li_bb, li_clean, li_z, pr_zz, pr_bb, pr_clean, pr_z, ll_zz, ll_bb, ll_cleanO, ll_cleanZ, ll_z, clean, isZ, isZs, cleans, zzs, bbs, Fl.bb, dIn_li, dEq_li, dEq_pr, dEq_ll, dEq_int, taint, taints, li_taint, pr_taint, ll_taint, Fl.tt, li_len, pr_len, ll_len, keyOf, List.map_cons, List.map_nil, List.length_cons, List.length_nil, List.set_cons_zero, List.set_cons_succ, Option.map_some, e1, nb_bb, look_nb, hp]
    refine wp_for (J1 P h s F a (h F[a])) ⟨[], v, by simp, by simpa using fd, by simp⟩ ?_ ?_
    · rintro i d e hi ⟨G, v, rfl, fg, hx⟩
      rw [li_get] at hi
      cases hg : (h F[a])[i]? with
      | none => rw [hg] at hi; cases hi
      | some x =>
        rw [hg] at hi
        cases hi
        have hxm : x ∈ h F[a] := List.mem_of_getElem? hg
        have hle2 := nodup_le fg.nd fg.sub
        have hl : (F ++ G).length < sizeLine := by show _ < 16777216; omega
        have hl2 : F.length + G.length < sizeLine := by simpa using hl
        simp [evSs, evS, evE, evEs, evP, evO, evTo, evT, evAnd, evOr, evTA, evTO, evIt, wp_bind, wp_nx, wp_if, wp_ok, wp_st, ok_bind, ok_nx, ok_rt, EV.R.of_some, rof_if, nxQ_nx, nxQ_rt, wp_noEx, g_0, g_s, s_0, s_s, s_t2, bb, zz, tru_bl, noEx_j, isi_list, isi_int, isi_bool, q_ll, q_llb, lenOk_of, b_add, b_sub, b_mul, b_div, b_mod, b_pow, mulOk_r, mulOk_l, divOk_of, c_lt, c_le, c_gt, c_ge, c_eq, c_ne, c_in, c_ni, dIn_dic, x_lst, x_scr, x_dic, l_lst, l_scr, l_abs, l_int, l_list, l_tup, l_sorted, l_sortedk, i_int, q_lst, q_lstp, q_b, q_bp, q_tup, q_tupp, a_app, a_put, t_0, t_s, rng_of, li_zz, li_bb, li_clean, li_z, pr_zz, pr_bb, pr_clean, pr_z, ll_zz, ll_bb, ll_cleanO, ll_cleanZ, ll_z, clean, isZ, isZs, cleans, zzs, bbs, Fl.bb, dIn_li, dEq_li, dEq_pr, dEq_ll, dEq_int, taint, taints, li_taint, pr_taint, ll_taint, Fl.tt, li_len, pr_len, ll_len, keyOf, List.map_cons, List.map_nil, List.length_cons, List.length_nil, List.set_cons_zero, List.set_cons_succ, Option.map_some, mt_bb, look_mt, put_mt hl, hl2]
        refine ⟨fun hm1 hm3 => ?_, fun hm => ?_⟩
        · have hm2 : x ∉ F ++ G := by simp [hm1, hm3]
          refine post_nx ⟨G ++ [x], some (.int x), ?_, ⟨?_, ?_, ?_, ?_⟩, ?_⟩
          · rw [← List.append_assoc]
            simp only [ins, if_neg hm2, li_app]
          · rw [← List.append_assoc, List.nodup_append]
            exact ⟨fg.nd, by simp, by rintro a ha b hb rfl; simp at hb; exact hm2 (hb ▸ ha)⟩
          · rw [← List.append_assoc]; exact List.mem_append_left _ fg.hs
          · rw [← List.append_assoc]
            intro y hy
            rcases List.mem_append.mp hy with hy | hy
            · exact fg.sub y hy
            · simp at hy; subst hy; exact hh _ hp _ hxm
          · rw [← List.append_assoc]
            intro y hy
            rcases List.mem_append.mp hy with hy | hy
            · exact fg.rc y hy
            · simp at hy; subst hy; exact .step (fd.rc _ (List.getElem_mem _)) hxm
          · intro y hy
            rw [← List.append_assoc]
            rw [take_succ' hg, List.mem_append] at hy
            rcases hy with hy | hy
            · exact List.mem_append_left _ (hx y hy)
            · simp at hy; subst hy; simp
        · refine post_nx ⟨G, _, rfl, fg, ?_⟩
          intro y hy
          rw [take_succ' hg, List.mem_append] at hy
          rcases hy with hy | hy
          · exact hx y hy
          · simp at hy; subst hy
            by_cases hf : y ∈ F
            · simp [hf]
            · simp [hm hf]
    · rintro e ⟨G, v, rfl, fg, hx⟩
      rw [li_len, List.take_length] at hx
      simp [evSs, evS, evE, evEs, evP, evO, evTo, evT, evAnd, evOr, evTA, evTO, evIt, wp_bind, wp_nx, wp_if, wp_ok, wp_st, ok_bind, ok_nx, ok_rt, EV.R.of_some, rof_if, nxQ_nx, nxQ_rt, wp_noEx, g_0, g_s, s_0, s_s, s_t2, bb, zz, tru_bl, noEx_j, isi_list, isi_int, isi_bool, q_ll, q_llb, lenOk_of, b_add, b_sub, b_mul, b_div, b_mod, b_pow, mulOk_r, mulOk_l, divOk_of, c_lt, c_le, c_gt, c_ge, c_eq, c_ne, c_in, c_ni, dIn_dic, x_lst, x_scr, x_dic, l_lst, l_scr, l_abs, l_int, l_list, l_tup, l_sorted, l_sortedk, i_int, q_lst, q_lstp, q_b, q_bp, q_tup, q_tupp, a_app, a_put, t_0, t_s, rng_of, li_zz, li_bb, li_clean, li_z, pr_zz, pr_bb, pr_clean, pr_z, ll_zz, ll_bb, ll_cleanO, ll_cleanZ, ll_z, clean, isZ, isZs, cleans, zzs, bbs, Fl.bb, dIn_li, dEq_li, dEq_pr, dEq_ll, dEq_int, taint, taints, li_taint, pr_taint, ll_taint, Fl.tt, li_len, pr_len, ll_len, keyOf, List.map_cons, List.map_nil, List.length_cons, List.length_nil, List.set_cons_zero, List.set_cons_succ, Option.map_some]
      refine down_nx (k - 1) (by omega) ⟨F ++ G, a + 1, v, by simp, fg, ?_, by simp; omega, by omega⟩
      intro i p hi hg x hxp
      by_cases he : i = a
      · subst he
        rw [List.getElem?_append_left hlt, List.getElem?_eq_getElem hlt] at hg
        cases hg
        exact hx x hxp
      · have hi2 : i < a := by omega
        rw [List.getElem?_append_left (by omega)] at hg
        exact List.mem_append_left _ (hc i p hi2 hg x hxp)
  · rw [if_neg hlt]
    refine ⟨F, rfl, fd, fun p hp x hx => ?_⟩
    obtain ⟨i, hi, e⟩ := List.mem_iff_getElem.mp hp
    exact hc i p (by omega) (by rw [List.getElem?_eq_getElem hi, e]) x hx
end K36
namespace K36
open PySem L2 EV
noncomputable def rcl (P : List Int) (h : Int → List Int) (s : Int) : List Int := match F1.sem [.dic .z (kn P) (nb .z P h), .int s] with
  | .ok (.lst _ ds) => (intsOf ds).getD []
  | _ => []
theorem rcl_all {P : List Int} {h : Int → List Int} {s : Int} (hs : s ∈ P) (hh : ∀ p ∈ P, ∀ x ∈ h p, x ∈ P) (hP : P.length ≤ 14) :
    F1.sem [.dic .z (kn P) (nb .z P h), .int s] = .ok (.lst .o (li (rcl P h s))) ∧ Fd P h s (rcl P h s) ∧ ∀ p ∈ rcl P h s, ∀ x ∈ h p, x ∈ rcl P h s := by
  obtain ⟨d, e, F, rfl, fd, hc⟩ := reach_ok hs hh hP
  have : rcl P h s = F := by
    unfold rcl
    rw [e]
    show (intsOf (li F)).getD [] = F
    rw [intsOf_li]; rfl
  rw [this]
  exact ⟨e, fd, hc⟩
theorem rcl_call {P : List Int} {h : Int → List Int} {s : Int} (hs : s ∈ P) (hh : ∀ p ∈ P, ∀ x ∈ h p, x ∈ P) (hP : P.length ≤ 14) :
    callD F1 [.dic .b (kn P) (nb .b P h), .int s] = .ok (.lst .o (li (rcl P h s))) := by
  rw [callD_b rfl (by simp [isZs, isZ])]
  show ((F1.sem [.dic .z (kn P) (zzs (nb .b P h)), .int s]).bind _) = _
  rw [nb_zz, (rcl_all hs hh hP).1, ok_bind]
  simp [taint, li_taint, Fl.tt]
theorem ins_mem {F : List Int} {x y : Int} : y ∈ ins F x ↔ y ∈ F ∨ y = x := by
  unfold ins
  split
  · rename_i h
    exact ⟨.inl, fun z => z.elim id fun e => e ▸ h⟩
  · simp
theorem ins_nodup {F : List Int} {x : Int} (h : F.Nodup) : (ins F x).Nodup := by
  unfold ins
  split
  · exact h
  · rename_i hx
    rw [List.nodup_append]
    exact ⟨h, by simp, by rintro a ha b hb rfl; simp at hb; exact hx (hb ▸ ha)⟩
theorem fins_mem {y : Int} : ∀ {F M : List Int}, y ∈ F.foldl ins M ↔ y ∈ M ∨ y ∈ F
  | [], M => by simp
  | x :: F, M => by
    rw [List.foldl_cons, fins_mem, ins_mem]
    simp only [List.mem_cons]
    constructor
    · rintro ((h | h) | h)
      · exact .inl h
      · exact .inr (.inl h)
      · exact .inr (.inr h)
    · rintro (h | h | h)
      · exact .inl (.inl h)
      · exact .inl (.inr h)
      · exact .inr h
theorem fins_nodup : ∀ {F M : List Int}, M.Nodup → (F.foldl ins M).Nodup
  | [], M, h => h
  | x :: F, M, h => fins_nodup (F := F) (ins_nodup h)
noncomputable def gst (P : List Int) (h : Int → List Int) (z : List (List Int) × List Int) (p : Int) : List (List Int) × List Int :=
  if p ∈ z.2 then z else (z.1 ++ [sortI (rcl P h p)], (rcl P h p).foldl ins z.2)
structure Sg (P : List Int) (h : Int → List Int) (dn : List Int) (z : List (List Int) × List Int) : Prop where
  mnd : z.2.Nodup
  msub : ∀ x ∈ z.2, x ∈ P
  mcl : ∀ p ∈ z.2, ∀ x ∈ h p, x ∈ z.2
  dnm : ∀ x ∈ dn, x ∈ z.2
  cov : ∀ x ∈ z.2, ∃ g ∈ z.1, x ∈ g
  gm : ∀ g ∈ z.1, ∀ x ∈ g, x ∈ z.2
  gg : ∀ g ∈ z.1, ∃ s ∈ P, g = sortI (rcl P h s)
  hdn : ∀ g ∈ z.1, ∀ x ∈ g.head?, x ∈ dn
  hd : z.1.Pairwise fun g g' => ∀ x ∈ g.head?, ∀ y ∈ g'.head?, x < y
  dj : z.1.Pairwise fun g g' => ∀ x ∈ g, x ∉ g'
  ln : z.1.length ≤ dn.length
theorem rch_back {h : Int → List Int} {s x : Int} {M : List Int} (sy : ∀ p x, x ∈ h p → p ∈ h x) (hc : ∀ p ∈ M, ∀ x ∈ h p, x ∈ M) (r : Rch h s x) : x ∈ M → s ∈ M := by
  induction r with
  | refl => exact id
  | step _ hx ih => exact fun hm => ih (hc _ hm _ (sy _ _ hx))
theorem head_least {p : Int} : ∀ {L : List Int}, L.Pairwise (· < ·) → p ∈ L → (∀ x ∈ L, p ≤ x) → L.head? = some p
  | [], _, h, _ => by simp at h
  | x :: L, hp, hm, hl => by
    rw [List.pairwise_cons] at hp
    rcases List.mem_cons.mp hm with rfl | hm
    · rfl
    · have := hp.1 p hm
      have := hl x (by simp)
      omega
theorem st_step {P : List Int} {h : Int → List Int} {dn : List Int} {z : List (List Int) × List Int} {p : Int} (sy : ∀ p x, x ∈ h p → p ∈ h x) (hh : ∀ p ∈ P, ∀ x ∈ h p, x ∈ P) (hP : P.length ≤ 14) (S : Sg P h dn z) (hp : p ∈ P)
    (h1 : ∀ x ∈ dn, x < p) (h2 : ∀ x ∈ P, x < p → x ∈ dn) : Sg P h (dn ++ [p]) (gst P h z p) := by
  unfold gst
  split
  · rename_i hm
    refine ⟨S.mnd, S.msub, S.mcl, ?_, S.cov, S.gm, S.gg, ?_, S.hd, S.dj, ?_⟩
    · intro x hx
      rcases List.mem_append.mp hx with hx | hx
      · exact S.dnm x hx
      · simp at hx; subst hx; exact hm
    · exact fun g hg x hx => List.mem_append_left _ (S.hdn g hg x hx)
    · have := S.ln; simp; omega
  · rename_i hm
    obtain ⟨_, fd, hc⟩ := rcl_all hp hh hP
    have dj : ∀ x ∈ rcl P h p, x ∉ z.2 := fun x hx hz => hm (rch_back sy S.mcl (fd.rc x hx) hz)
    have hhd : (sortI (rcl P h p)).head? = some p := by
      refine head_least (sortI_lt fd.nd) (sortI_mem.mpr fd.hs) fun x hx => ?_
      rw [sortI_mem] at hx
      refine Int.not_lt.mp fun hlt => dj x hx (S.dnm x (h2 x (fd.sub x hx) hlt))
    refine ⟨fins_nodup S.mnd, ?_, ?_, ?_, ?_, ?_, ?_, ?_, ?_, ?_, ?_⟩
    · intro x hx
      rcases fins_mem.mp hx with hx | hx
      · exact S.msub x hx
      · exact fd.sub x hx
    · intro q hq x hx
      rcases fins_mem.mp hq with hq | hq
      · exact fins_mem.mpr (.inl (S.mcl q hq x hx))
      · exact fins_mem.mpr (.inr (hc q hq x hx))
    · intro x hx
      rcases List.mem_append.mp hx with hx | hx
      · exact fins_mem.mpr (.inl (S.dnm x hx))
      · simp at hx; subst hx; exact fins_mem.mpr (.inr fd.hs)
    · intro x hx
      rcases fins_mem.mp hx with hx | hx
      · obtain ⟨g, hg, hxg⟩ := S.cov x hx
        exact ⟨g, List.mem_append_left _ hg, hxg⟩
      · exact ⟨_, List.mem_append_right _ (by simp), sortI_mem.mpr hx⟩
    · intro g hg x hx
      rcases List.mem_append.mp hg with hg | hg
      · exact fins_mem.mpr (.inl (S.gm g hg x hx))
      · simp at hg; subst hg; exact fins_mem.mpr (.inr (sortI_mem.mp hx))
    · intro g hg
      rcases List.mem_append.mp hg with hg | hg
      · exact S.gg g hg
      · simp at hg; subst hg; exact ⟨p, hp, rfl⟩
    · intro g hg x hx
      rcases List.mem_append.mp hg with hg | hg
      · exact List.mem_append_left _ (S.hdn g hg x hx)
      · simp at hg; subst hg
        rw [hhd] at hx
        cases hx
        simp
    · rw [List.pairwise_append]
      refine ⟨S.hd, by simp, ?_⟩
      intro g hg g' hg' x hx y hy
      simp at hg'; subst hg'
      rw [hhd] at hy
      cases hy
      exact h1 x (S.hdn g hg x hx)
    · rw [List.pairwise_append]
      refine ⟨S.dj, by simp, ?_⟩
      intro g hg g' hg' x hx hx'
      simp at hg'; subst hg'
      exact dj x (sortI_mem.mp hx') (S.gm g hg x hx)
    · have := S.ln; simp; omega
noncomputable def grs (P : List Int) (h : Int → List Int) (L : List Int) : List (List Int) × List Int := L.foldl (gst P h) ([], [])
theorem grs_snoc {P : List Int} {h : Int → List Int} {L : List Int} {p : Int} : grs P h (L ++ [p]) = gst P h (grs P h L) p := by simp [grs, List.foldl_append]
theorem sorted_at {L : List Int} {i : Nat} {p : Int} (hL : L.Pairwise (· < ·)) (h : L[i]? = some p) : (∀ x ∈ L.take i, x < p) ∧ ∀ x ∈ L, x < p → x ∈ L.take i := by
  have hi : i < L.length := (List.getElem?_eq_some_iff.mp h).1
  have hp : L[i] = p := (List.getElem?_eq_some_iff.mp h).2
  have e : L = L.take i ++ p :: L.drop (i + 1) := by
    rw [← hp, ← List.drop_eq_getElem_cons hi, List.take_append_drop]
  have hL2 := hL
  rw [e, List.pairwise_append, List.pairwise_cons] at hL2
  refine ⟨fun x hx => hL2.2.2 x hx p (by simp), fun x hx hlt => ?_⟩
  rw [e] at hx
  rcases List.mem_append.mp hx with hx | hx
  · exact hx
  · rcases List.mem_cons.mp hx with rfl | hx
    · omega
    · have := hL2.2.1.1 x hx; omega
theorem st_all {P : List Int} {h : Int → List Int} (sy : ∀ p x, x ∈ h p → p ∈ h x) (hh : ∀ p ∈ P, ∀ x ∈ h p, x ∈ P) (hP : P.length ≤ 14) (hn : P.Nodup) : ∀ i, i ≤ P.length → Sg P h ((sortI P).take i) (grs P h ((sortI P).take i))
  | 0, _ => by
    show Sg P h [] ([], [])
    exact ⟨by simp, by simp, by simp, by simp, by simp, by simp, by simp, by simp, by simp, by simp, by simp⟩
  | i + 1, hi => by
    have S := st_all sy hh hP hn i (by omega)
    have hl : i < (sortI P).length := by rw [sortI_len]; omega
    have e := List.getElem?_eq_getElem hl
    have := sorted_at (sortI_lt hn) e
    rw [take_succ' e, grs_snoc]
    exact st_step sy hh hP S (sortI_mem.mp (List.getElem_mem hl)) this.1 fun x hx hlt => this.2 x (sortI_mem.mpr hx) hlt
theorem l_sortedk' {f : Fl} {L : List Int} {ds : List D} (h : L.length < 64) : dB .sorted (.dic f (kn L) ds) = some (.lst .o (li (sortI L))) := by
  show dB .sorted (.dic f (L.map .inl) ds) = _
  rw [l_sortedk, if_pos h]
section
variable (X Y : D) (P : List Int) (h : Int → List Int)
def I2 (i : Nat) (e : EV.Env) : Prop := ∃ v5 v6 v7 : Option D, e = [some X, some Y, some (.dic .o (kn P) (nb .o P h)), some (.lst .o (ll .o (grs P h ((sortI P).take i)).1)), some (.dic .o (kn (grs P h ((sortI P).take i)).2) (mt (grs P h ((sortI P).take i)).2)), v5, v6, v7]
def J2 (z : List (List Int) × List Int) (p : Int) (F : List Int) (j : Nat) (e : EV.Env) : Prop := ∃ v7 : Option D, e = [some X, some Y, some (.dic .o (kn P) (nb .o P h)), some (.lst .o (ll .o z.1)), some (.dic .o (kn ((F.take j).foldl ins z.2)) (mt ((F.take j).foldl ins z.2))), some (.int p), some (.lst .z (li F)), v7]
end
noncomputable def grp (P : List Int) (T : List (Int × Int)) : List (List Int) := (grs P (adj P T) (sortI P)).1
theorem mt_clean : ∀ F : List Int, cleans (mt F) = true
  | [] => rfl | x :: F => mt_clean F
theorem grouped_ok {X Y : D} {P : List Int} {T : List (Int × Int)} (hX : X = .lst .z (li P) ∨ X = .tup (li P)) (hY : Y = .lst .z (pr T) ∨ Y = .tup (pr T)) (hn : P.Nodup) (hP : P.length ≤ 14) (hT : T.length ≤ 14) :
    F2.sem [X, Y] = .ok (.lst .o (ll .o (grp P T))) := by
  have bX : bb X = X := by rcases hX with rfl | rfl <;> simp [bb, li_bb, Fl.bb]
  have bY : bb Y = Y := by rcases hY with rfl | rfl <;> simp [bb, pr_bb, Fl.bb]
  have zX : isZ X = true := by rcases hX with rfl | rfl <;> simp [isZ, li_z]
  have zY : isZ Y = true := by rcases hY with rfl | rfl <;> simp [isZ, pr_z]
  have near : callD F0 [X, Y] = .ok (.dic .o (kn P) (nb .o P (adj P T))) := by
    rw [callD_z rfl (by simp [isZs, zX, zY])]
    exact near_ok hX hY hn hP hT
  have sy : ∀ p x, x ∈ adj P T p → p ∈ adj P T x := fun p x => adj_sym
  have hh : ∀ p ∈ P, ∀ x ∈ adj P T p, x ∈ P := fun p _ x hx => (mem_adj.mp hx).2.2
  refine wp_eq ?_
  simp [F2, runF, dr2, evSs, evS, evE, evEs, evP, evO, evTo, evT, evAnd, evOr, evTA, evTO, evIt, wp_bind, wp_nx, wp_if, wp_ok, wp_st, ok_bind, ok_nx, ok_rt, EV.R.of_some, rof_if, nxQ_nx, nxQ_rt, wp_noEx, g_0, g_s, s_0, s_s, s_t2, bb, zz, tru_bl, noEx_j, isi_list, isi_int, isi_bool, q_ll, q_llb, lenOk_of, b_add, b_sub, b_mul, b_div, b_mod, b_pow, mulOk_r, mulOk_l, divOk_of, c_lt, c_le, c_gt, c_ge, c_eq, c_ne, c_in, c_ni, dIn_dic, x_lst, x_scr, x_dic, l_lst, l_scr, l_abs, l_int, l_list, l_tup, l_sorted, l_sortedk, i_int, q_lst, q_lstp, q_b, q_bp, q_tup, q_tupp, a_app, a_put, t_0, t_s, rng_of, li_zz, li_bb, li_clean, li_z, pr_zz, pr_bb, pr_clean, pr_z, ll_zz, ll_bb, ll_cleanO, ll_cleanZ, ll_z, clean, isZ, isZs, cleans, zzs, bbs, Fl.bb, dIn_li, dEq_li, dEq_pr, dEq_ll, dEq_int, taint, taints, li_taint, pr_taint, ll_taint, Fl.tt, li_len, pr_len, ll_len, keyOf, List.map_cons, List.map_nil, List.length_cons, List.length_nil, List.set_cons_zero, List.set_cons_succ, Option.map_some, bX, bY, t2_0, near, nb_clean]
  simp [evSs, evS, evE, evEs, evP, evO, evTo, evT, evAnd, evOr, evTA, evTO, evIt, wp_bind, wp_nx, wp_if, wp_ok, wp_st, ok_bind, ok_nx, ok_rt, EV.R.of_some, rof_if, nxQ_nx, nxQ_rt, wp_noEx, g_0, g_s, s_0, s_s, s_t2, bb, zz, tru_bl, noEx_j, isi_list, isi_int, isi_bool, q_ll, q_llb, lenOk_of, b_add, b_sub, b_mul, b_div, b_mod, b_pow, mulOk_r, mulOk_l, divOk_of, c_lt, c_le, c_gt, c_ge, c_eq, c_ne, c_in, c_ni, dIn_dic, x_lst, x_scr, x_dic, l_lst, l_scr, l_abs, l_int, l_list, l_tup, l_sorted, l_sortedk, i_int, q_lst, q_lstp, q_b, q_bp, q_tup, q_tupp, a_app, a_put, t_0, t_s, rng_of, li_zz, li_bb, li_clean, li_z, pr_zz, pr_bb, pr_clean, pr_z, ll_zz, ll_bb, ll_cleanO, ll_cleanZ, ll_z, clean, isZ, isZs, cleans, zzs, bbs, Fl.bb, dIn_li, dEq_li, dEq_pr, dEq_ll, dEq_int, taint, taints, li_taint, pr_taint, ll_taint, Fl.tt, li_len, pr_len, ll_len, keyOf, List.map_cons, List.map_nil, List.length_cons, List.length_nil, List.set_cons_zero, List.set_cons_succ, Option.map_some, nb_bb, l_sortedk' (show P.length < 64 by omega)]
  refine wp_for (I2 X Y P (adj P T)) ⟨none, none, none, rfl⟩ ?_ ?_
  · rintro i d e hi ⟨v5, v6, v7, rfl⟩
    rw [li_get] at hi
    cases ht : (sortI P)[i]? with
    | none => rw [ht] at hi; cases hi
    | some p =>
      rw [ht] at hi
      cases hi
      have hil : i < (sortI P).length := (List.getElem?_eq_some_iff.mp ht).1
      rw [sortI_len] at hil
      have S := st_all sy hh hP hn i (by omega)
      have hp : p ∈ P := sortI_mem.mp (List.mem_of_getElem? ht)
      have en : grs P (adj P T) ((sortI P).take (i + 1)) = gst P (adj P T) (grs P (adj P T) ((sortI P).take i)) p := by rw [take_succ' ht, grs_snoc]
      simp [evSs, evS, evE, evEs, evP, evO, evTo, evT, evAnd, evOr, evTA, evTO, evIt, wp_bind, wp_nx, wp_if, wp_ok, wp_st, ok_bind, ok_nx, ok_rt, EV.R.of_some, rof_if, nxQ_nx, nxQ_rt, wp_noEx, g_0, g_s, s_0, s_s, s_t2, bb, zz, tru_bl, noEx_j, isi_list, isi_int, isi_bool, q_ll, q_llb, lenOk_of, b_add, b_sub, b_mul, b_div, b_mod, b_pow, mulOk_r, mulOk_l, divOk_of, c_lt, c_le, c_gt, c_ge, c_eq, c_ne, c_in, c_ni, dIn_dic, x_lst, x_scr, x_dic, l_lst, l_scr, l_abs, l_int, l_list, l_tup, l_sorted, l_sortedk, i_int, q_lst, q_lstp, q_b, q_bp, q_tup, q_tupp, a_app, a_put, t_0, t_s, rng_of, li_zz, li_bb, li_clean, li_z, pr_zz, pr_bb, pr_clean, pr_z, ll_zz, ll_bb, ll_cleanO, ll_cleanZ, ll_z, clean, isZ, isZs, cleans, zzs, bbs, Fl.bb, dIn_li, dEq_li, dEq_pr, dEq_ll, dEq_int, taint, taints, li_taint, pr_taint, ll_taint, Fl.tt, li_len, pr_len, ll_len, keyOf, List.map_cons, List.map_nil, List.length_cons, List.length_nil, List.set_cons_zero, List.set_cons_succ, Option.map_some, mt_bb, look_mt]
      refine ⟨fun hm => ?_, fun hm => ?_⟩
      · have eg : gst P (adj P T) (grs P (adj P T) ((sortI P).take i)) p = grs P (adj P T) ((sortI P).take i) := if_pos hm
        exact post_nx ⟨_, _, _, by rw [en, eg]⟩
      · have eg : gst P (adj P T) (grs P (adj P T) ((sortI P).take i)) p = ((grs P (adj P T) ((sortI P).take i)).1 ++ [sortI (rcl P (adj P T) p)], (rcl P (adj P T) p).foldl ins (grs P (adj P T) ((sortI P).take i)).2) := if_neg hm
        simp [evSs, evS, evE, evEs, evP, evO, evTo, evT, evAnd, evOr, evTA, evTO, evIt, wp_bind, wp_nx, wp_if, wp_ok, wp_st, ok_bind, ok_nx, ok_rt, EV.R.of_some, rof_if, nxQ_nx, nxQ_rt, wp_noEx, g_0, g_s, s_0, s_s, s_t2, bb, zz, tru_bl, noEx_j, isi_list, isi_int, isi_bool, q_ll, q_llb, lenOk_of, b_add, b_sub, b_mul, b_div, b_mod, b_pow, mulOk_r, mulOk_l, divOk_of, c_lt, c_le, c_gt, c_ge, c_eq, c_ne, c_in, c_ni, dIn_dic, x_lst, x_scr, x_dic, l_lst, l_scr, l_abs, l_int, l_list, l_tup, l_sorted, l_sortedk, i_int, q_lst, q_lstp, q_b, q_bp, q_tup, q_tupp, a_app, a_put, t_0, t_s, rng_of, li_zz, li_bb, li_clean, li_z, pr_zz, pr_bb, pr_clean, pr_z, ll_zz, ll_bb, ll_cleanO, ll_cleanZ, ll_z, clean, isZ, isZs, cleans, zzs, bbs, Fl.bb, dIn_li, dEq_li, dEq_pr, dEq_ll, dEq_int, taint, taints, li_taint, pr_taint, ll_taint, Fl.tt, li_len, pr_len, ll_len, keyOf, List.map_cons, List.map_nil, List.length_cons, List.length_nil, List.set_cons_zero, List.set_cons_succ, Option.map_some, nb_bb, t2_1, rcl_call hp hh hP]
        refine wp_for (J2 X Y P (adj P T) (grs P (adj P T) ((sortI P).take i)) p (rcl P (adj P T) p)) ⟨_, rfl⟩ ?_ ?_
        · rintro j d e hj ⟨v7, rfl⟩
          rw [li_get] at hj
          cases hx : (rcl P (adj P T) p)[j]? with
          | none => rw [hx] at hj; cases hj
          | some x =>
            rw [hx] at hj
            cases hj
            obtain ⟨_, fd, _⟩ := rcl_all hp hh hP
            have hlen := nodup_le (fins_nodup (F := (rcl P (adj P T) p).take j) S.mnd) fun y hy => by
              rcases fins_mem.mp hy with hy | hy
              · exact S.msub y hy
              · exact fd.sub y (List.mem_of_mem_take hy)
            have hl : (((rcl P (adj P T) p).take j).foldl ins (grs P (adj P T) ((sortI P).take i)).2).length < sizeLine := by show _ < 16777216; omega
            simp [evSs, evS, evE, evEs, evP, evO, evTo, evT, evAnd, evOr, evTA, evTO, evIt, wp_bind, wp_nx, wp_if, wp_ok, wp_st, ok_bind, ok_nx, ok_rt, EV.R.of_some, rof_if, nxQ_nx, nxQ_rt, wp_noEx, g_0, g_s, s_0, s_s, s_t2, bb, zz, tru_bl, noEx_j, isi_list, isi_int, isi_bool, q_ll, q_llb, lenOk_of, b_add, b_sub, b_mul, b_div, b_mod, b_pow, mulOk_r, mulOk_l, divOk_of, c_lt, c_le, c_gt, c_ge, c_eq, c_ne, c_in, c_ni, dIn_dic, x_lst, x_scr, x_dic, l_lst, l_scr, l_abs, l_int, l_list, l_tup, l_sorted, l_sortedk, i_int, q_lst, q_lstp, q_b, q_bp, q_tup, q_tupp, a_app, a_put, t_0, t_s, rng_of, li_zz, li_bb, li_clean, li_z, pr_zz, pr_bb, pr_clean, pr_z, ll_zz, ll_bb, ll_cleanO, ll_cleanZ, ll_z, clean, isZ, isZs, cleans, zzs, bbs, Fl.bb, dIn_li, dEq_li, dEq_pr, dEq_ll, dEq_int, taint, taints, li_taint, pr_taint, ll_taint, Fl.tt, li_len, pr_len, ll_len, keyOf, List.map_cons, List.map_nil, List.length_cons, List.length_nil, List.set_cons_zero, List.set_cons_succ, Option.map_some, put_mt hl]
            exact post_nx ⟨_, by rw [take_succ' hx, List.foldl_append]; rfl⟩
        · rintro e ⟨v7, rfl⟩
          have hl := S.ln
          have hl2 : (grs P (adj P T) ((sortI P).take i)).1.length < sizeLine := by
            have : ((sortI P).take i).length ≤ i := by simp; omega
            show _ < 16777216; omega
          rw [li_len, List.take_length]
          simp [evSs, evS, evE, evEs, evP, evO, evTo, evT, evAnd, evOr, evTA, evTO, evIt, wp_bind, wp_nx, wp_if, wp_ok, wp_st, ok_bind, ok_nx, ok_rt, EV.R.of_some, rof_if, nxQ_nx, nxQ_rt, wp_noEx, g_0, g_s, s_0, s_s, s_t2, bb, zz, tru_bl, noEx_j, isi_list, isi_int, isi_bool, q_ll, q_llb, lenOk_of, b_add, b_sub, b_mul, b_div, b_mod, b_pow, mulOk_r, mulOk_l, divOk_of, c_lt, c_le, c_gt, c_ge, c_eq, c_ne, c_in, c_ni, dIn_dic, x_lst, x_scr, x_dic, l_lst, l_scr, l_abs, l_int, l_list, l_tup, l_sorted, l_sortedk, i_int, q_lst, q_lstp, q_b, q_bp, q_tup, q_tupp, a_app, a_put, t_0, t_s, rng_of, li_zz, li_bb, li_clean, li_z, pr_zz, pr_bb, pr_clean, pr_z, ll_zz, ll_bb, ll_cleanO, ll_cleanZ, ll_z, clean, isZ, isZs, cleans, zzs, bbs, Fl.bb, dIn_li, dEq_li, dEq_pr, dEq_ll, dEq_int, taint, taints, li_taint, pr_taint, ll_taint, Fl.tt, li_len, pr_len, ll_len, keyOf, List.map_cons, List.map_nil, List.length_cons, List.length_nil, List.set_cons_zero, List.set_cons_succ, Option.map_some, hl2]
          exact post_nx ⟨_, _, _, by rw [en, eg, ll_app]⟩
  · rintro e ⟨v5, v6, v7, rfl⟩
    rw [li_len, List.take_length]
    simp [evSs, evS, evE, evEs, evP, evO, evTo, evT, evAnd, evOr, evTA, evTO, evIt, wp_bind, wp_nx, wp_if, wp_ok, wp_st, ok_bind, ok_nx, ok_rt, EV.R.of_some, rof_if, nxQ_nx, nxQ_rt, wp_noEx, g_0, g_s, s_0, s_s, s_t2, bb, zz, tru_bl, noEx_j, isi_list, isi_int, isi_bool, q_ll, q_llb, lenOk_of, b_add, b_sub, b_mul, b_div, b_mod, b_pow, mulOk_r, mulOk_l, divOk_of, c_lt, c_le, c_gt, c_ge, c_eq, c_ne, c_in, c_ni, dIn_dic, x_lst, x_scr, x_dic, l_lst, l_scr, l_abs, l_int, l_list, l_tup, l_sorted, l_sortedk, i_int, q_lst, q_lstp, q_b, q_bp, q_tup, q_tupp, a_app, a_put, t_0, t_s, rng_of, li_zz, li_bb, li_clean, li_z, pr_zz, pr_bb, pr_clean, pr_z, ll_zz, ll_bb, ll_cleanO, ll_cleanZ, ll_z, clean, isZ, isZs, cleans, zzs, bbs, Fl.bb, dIn_li, dEq_li, dEq_pr, dEq_ll, dEq_int, taint, taints, li_taint, pr_taint, ll_taint, Fl.tt, li_len, pr_len, ll_len, keyOf, List.map_cons, List.map_nil, List.length_cons, List.length_nil, List.set_cons_zero, List.set_cons_succ, Option.map_some]
    rfl
end K36
namespace K36
open PySem L2 EV
theorem ll_map {f : Fl} {G : List (List Int)} : ll f G = G.map fun g => .lst f (li g) := rfl
def oddf (G : List (List Int)) : List (List Int) := G.filter fun g => decide (g.length % 2 = 1)
theorem flt_ll {test : D → EV.R Bool} {f : List Int → Bool} : ∀ (G acc : List (List Int)), (∀ g ∈ G, test (.lst .o (li g)) = .ok (f g)) → fltL test (ll .o G) (ll .o acc) = .ok (ll .o (acc ++ G.filter f))
  | [], acc, _ => by simp [ll, fltL]
  | g :: G, acc, h => by
    show fltL test (.lst .o (li g) :: ll .o G) (ll .o acc) = _
    rw [fltL, h g (by simp), ok_bind]
    cases e : f g with
    | false =>
      rw [if_neg Bool.false_ne_true, flt_ll G acc fun x hx => h x (by simp [hx])]
      simp [List.filter_cons, e]
    | true =>
      rw [if_pos rfl, ll_app, flt_ll G (acc ++ [g]) fun x hx => h x (by simp [hx])]
      simp [List.filter_cons, e]
theorem get_set {env : EV.Env} {i : Nat} {d : D} (h : i < env.length) : EV.get (env.set i (some d)) i = .ok d := by
  unfold EV.get
  rw [List.getElem?_set_self h]
theorem flt_odd {Φ : Nat → FD} {c : C} {env : EV.Env} {i : Nat} {G : List (List Int)} (hc : evE Φ c env = .ok (.lst .o (ll .o G))) (hi : i < env.length) (hG : G.length ≤ 40) :
    evE Φ (.flt c i (.b (.cmp .eq (.bin .mod (.blt .len (.slot i)) (.int 2)) (.int 1)))) env = .ok (.lst .o (ll .o (oddf G))) := by
  have key := flt_ll (test := fun d => noEx ((setTg (.name i) (bb d) (wipeE env [i])).bind fun env' => evT Φ (.b (.cmp .eq (.bin .mod (.blt .len (.slot i)) (.int 2)) (.int 1))) env')) (f := fun g => decide (g.length % 2 = 1)) G [] fun g _ => by
    have hw : i < (wipeE env [i]).length := by rw [wipeE_length]; exact hi
    have e1 : setTg (.name i) (bb (.lst .o (li g))) (wipeE env [i]) = .ok ((wipeE env [i]).set i (some (.lst .b (li g)))) := by
      show (if decide (i < (wipeE env [i]).length) = true then EV.R.ok ((wipeE env [i]).set i (some (bb (.lst .o (li g))))) else EV.R.st) = _
      rw [decide_eq_true hw, if_pos rfl]
      simp [bb, li_bb, Fl.bb]
    rw [e1, ok_bind]
    have e2 : evE Φ (.slot i) ((wipeE env [i]).set i (some (.lst .b (li g)))) = .ok (.lst .b (li g)) := by
      rw [evE, get_set hw, ok_bind]
      simp [bb, li_bb, Fl.bb]
    have e3 : ((g.length : Int) % 2 = 1) ↔ g.length % 2 = 1 := by omega
    simp [evT, evE, get_set hw, bb, li_bb, Fl.bb, ok_bind, l_lst, li_len, b_mod, c_eq, dEq_int, EV.R.of_some, noEx_j, e3]
  rw [evE, hc, ok_bind]
  show (if cleans (ll .o G) && decide (i < env.length) && decide ((ll .o G).length ≤ sizeLine) then _ else EV.R.st) = _
  have hs : (ll .o G).length ≤ sizeLine := by rw [ll_len]; show _ ≤ 16777216; omega
  rw [ll_cleanO, decide_eq_true hi, decide_eq_true hs]
  show R.bind (fltL _ (ll .o G) (ll .o [])) _ = _
  rw [key]; rfl
theorem grp_len {P : List Int} {T : List (Int × Int)} (hn : P.Nodup) (hP : P.length ≤ 14) : (grp P T).length ≤ 14 := by
  have S := st_all (P := P) (h := adj P T) (fun p x => adj_sym) (fun p _ x hx => (mem_adj.mp hx).2.2) hP hn P.length (Nat.le_refl _)
  have et : (sortI P).take P.length = sortI P := by rw [← sortI_len, List.take_length]
  rw [et] at S
  have := S.ln
  rw [sortI_len] at this
  exact Nat.le_trans this hP
theorem odd_ok {X Y : D} {P : List Int} {T : List (Int × Int)} (hX : X = .lst .z (li P) ∨ X = .tup (li P)) (hY : Y = .lst .z (pr T) ∨ Y = .tup (pr T)) (hn : P.Nodup) (hP : P.length ≤ 14) (hT : T.length ≤ 14) :
    F3.sem [X, Y] = .ok (.lst .o (ll .o (oddf (grp P T)))) := by
  have bX : bb X = X := by rcases hX with rfl | rfl <;> simp [bb, li_bb, Fl.bb]
  have bY : bb Y = Y := by rcases hY with rfl | rfl <;> simp [bb, pr_bb, Fl.bb]
  have zX : isZ X = true := by rcases hX with rfl | rfl <;> simp [isZ, li_z]
  have zY : isZ Y = true := by rcases hY with rfl | rfl <;> simp [isZ, pr_z]
  have c2 : callD F2 [X, Y] = .ok (.lst .o (ll .o (grp P T))) := by
    rw [callD_z rfl (by simp [isZs, zX, zY])]
    exact grouped_ok hX hY hn hP hT
  have e0 : evE T3 (.call 2 (.cons (.slot 0) (.cons (.slot 1) .nil))) [some X, some Y, none] = .ok (.lst .o (ll .o (grp P T))) := by
    simp [evE, evEs, g_0, g_s, ok_bind, bX, bY, t3_2, c2]
  have e1 := flt_odd (i := 2) e0 (by simp) (Nat.le_trans (grp_len hn hP) (by decide))
  refine wp_eq ?_
  show Wp (noEx (runF T3 3 dr3.body [X, Y])) _
  rw [wp_noEx]
  unfold runF dr3
  show Wp (R.bind (evSs T3 _ [some X, some Y, none]) _) _
  rw [wp_bind, evSs, wp_nx, evS, e1]
  simp [evSs, evS, evE.eq_1, evE.eq_2, evE.eq_3, evE.eq_4, evE.eq_5, evE.eq_6, evE.eq_7, evE.eq_8, evE.eq_9, evE.eq_10, evE.eq_11, evE.eq_12, evE.eq_13, evE.eq_14, evE.eq_15, evE.eq_16, evE.eq_17, evE.eq_18, evE.eq_19, evE.eq_20, evE.eq_21, evE.eq_22, evE.eq_23, evE.eq_24, evE.eq_27, evEs, evP, evO, evTo, evT, evAnd, evOr, evTA, evTO, evIt, wp_bind, wp_nx, wp_if, wp_ok, wp_st, ok_bind, ok_nx, ok_rt, EV.R.of_some, rof_if, nxQ_nx, nxQ_rt, wp_noEx, g_0, g_s, s_0, s_s, s_t2, bb, zz, tru_bl, noEx_j, isi_list, isi_int, isi_bool, q_ll, q_llb, lenOk_of, b_add, b_sub, b_mul, b_div, b_mod, b_pow, mulOk_r, mulOk_l, divOk_of, c_lt, c_le, c_gt, c_ge, c_eq, c_ne, c_in, c_ni, dIn_dic, x_lst, x_scr, x_dic, l_lst, l_scr, l_abs, l_int, l_list, l_tup, l_sorted, l_sortedk, i_int, q_lst, q_lstp, q_b, q_bp, q_tup, q_tupp, a_app, a_put, t_0, t_s, rng_of, li_zz, li_bb, li_clean, li_z, pr_zz, pr_bb, pr_clean, pr_z, ll_zz, ll_bb, ll_cleanO, ll_cleanZ, ll_z, clean, isZ, isZs, cleans, zzs, bbs, Fl.bb, dIn_li, dEq_li, dEq_pr, dEq_ll, dEq_int, taint, taints, li_taint, pr_taint, ll_taint, Fl.tt, li_len, pr_len, ll_len, keyOf, List.map_cons, List.map_nil, List.length_cons, List.length_nil, List.set_cons_zero, List.set_cons_succ, Option.map_some]
theorem dcomp_mt {turn : D → EV.R (Key × D)} (ht : ∀ p : Int, turn (.int p) = .ok (.inl p, .bl true)) : ∀ (P Q : List Int), (Q ++ P).Nodup → (Q ++ P).length ≤ sizeLine →
    dcompL turn (li P) (kn Q) (mt Q) = .ok (kn (Q ++ P), mt (Q ++ P))
  | [], Q, _, _ => by simp [li, dcompL]
  | p :: P, Q, hn, hl => by
    have hp : p ∉ Q := fun h => by
      rw [List.nodup_append] at hn
      exact hn.2.2 p h p (by simp) rfl
    have hm : memK (Sum.inl p : Key) (kn Q) = false := by
      unfold memK kn
      simp [hp]
    have e1 : kn Q ++ [.inl p] = kn (Q ++ [p]) := by simp [kn]
    have e2 : mt Q ++ [.bl true] = mt (Q ++ [p]) := by simp [mt]
    show dcompL turn (.int p :: li P) _ _ = _
    rw [dcompL, ht, ok_bind]
    have hk : (kn Q).length < sizeLine := by simp [kn]; simp at hl; omega
    rw [if_pos (by simp [hm, hk, clean])]
    show dcompL turn (li P) (kn Q ++ [.inl p]) (mt Q ++ [.bl true]) = _
    rw [e1, e2, dcomp_mt ht P (Q ++ [p]) (by simpa using hn) (by simpa using hl)]
    simp
def wo (P X : List Int) : List Int := P.filter fun p => decide (p ∉ X)
theorem wo_fm (X : List Int) : ∀ P : List Int, P.filterMap (fun p => if p ∈ X then none else some (D.int p)) = li (wo P X)
  | [] => rfl
  | p :: P => by
    rw [List.filterMap_cons, wo_fm X P]
    unfold wo
    rw [List.filter_cons]
    by_cases h : p ∈ X
    · rw [if_pos h, if_neg (by simpa using h)]
    · rw [if_neg h, if_pos (by simpa using h)]; rfl
theorem pieces_ok {P X : List Int} {T : List (Int × Int)} (hn : P.Nodup) (hP : P.length ≤ 14) (hT : T.length ≤ 14) (hX : X.Nodup) (hXl : X.length ≤ 14) :
    F4.sem [.lst .z (li P), .lst .z (pr T), .lst .z (li X)] = .ok (.lst .o (ll .o (oddf (grp (wo P X) T)))) := by
  have key := dcomp_mt (turn := fun d => noEx ((setTg (.name 4) d (wipeE [some (.lst .z (li P)), some (.lst .z (pr T)), some (.lst .z (li X)), none, none] [4])).bind fun env' => (evE T4 (.slot 4) env').bind fun x => (R.of (keyOf x)).bind fun q => (evE T4 (.bl true) env').bind fun y => .ok (q, y)))
    (fun p => by simp [wipeE, evSs, evS, evE, evEs, evP, evO, evTo, evT, evAnd, evOr, evTA, evTO, evIt, wp_bind, wp_nx, wp_if, wp_ok, wp_st, ok_bind, ok_nx, ok_rt, EV.R.of_some, rof_if, nxQ_nx, nxQ_rt, wp_noEx, g_0, g_s, s_0, s_s, s_t2, bb, zz, tru_bl, noEx_j, isi_list, isi_int, isi_bool, q_ll, q_llb, lenOk_of, b_add, b_sub, b_mul, b_div, b_mod, b_pow, mulOk_r, mulOk_l, divOk_of, c_lt, c_le, c_gt, c_ge, c_eq, c_ne, c_in, c_ni, dIn_dic, x_lst, x_scr, x_dic, l_lst, l_scr, l_abs, l_int, l_list, l_tup, l_sorted, l_sortedk, i_int, q_lst, q_lstp, q_b, q_bp, q_tup, q_tupp, a_app, a_put, t_0, t_s, rng_of, li_zz, li_bb, li_clean, li_z, pr_zz, pr_bb, pr_clean, pr_z, ll_zz, ll_bb, ll_cleanO, ll_cleanZ, ll_z, clean, isZ, isZs, cleans, zzs, bbs, Fl.bb, dIn_li, dEq_li, dEq_pr, dEq_ll, dEq_int, taint, taints, li_taint, pr_taint, ll_taint, Fl.tt, li_len, pr_len, ll_len, keyOf, List.map_cons, List.map_nil, List.length_cons, List.length_nil, List.set_cons_zero, List.set_cons_succ, Option.map_some]) X [] (by simpa using hX) (by simp; show _ ≤ 16777216; omega)
  have k1 : evE T4 (.dcomp (.seq (.slot 2)) (.name 4) [4] (.slot 4) (.bl true)) [some (.lst .z (li P)), some (.lst .z (pr T)), some (.lst .z (li X)), none, none] = .ok (.dic .o (kn X) (mt X)) := by
    rw [evE]
    have e1 : evIt T4 (.seq (.slot 2)) true [some (.lst .z (li P)), some (.lst .z (pr T)), some (.lst .z (li X)), none, none] = .ok (li X) := by simp [evSs, evS, evE, evEs, evP, evO, evTo, evT, evAnd, evOr, evTA, evTO, evIt, wp_bind, wp_nx, wp_if, wp_ok, wp_st, ok_bind, ok_nx, ok_rt, EV.R.of_some, rof_if, nxQ_nx, nxQ_rt, wp_noEx, g_0, g_s, s_0, s_s, s_t2, bb, zz, tru_bl, noEx_j, isi_list, isi_int, isi_bool, q_ll, q_llb, lenOk_of, b_add, b_sub, b_mul, b_div, b_mod, b_pow, mulOk_r, mulOk_l, divOk_of, c_lt, c_le, c_gt, c_ge, c_eq, c_ne, c_in, c_ni, dIn_dic, x_lst, x_scr, x_dic, l_lst, l_scr, l_abs, l_int, l_list, l_tup, l_sorted, l_sortedk, i_int, q_lst, q_lstp, q_b, q_bp, q_tup, q_tupp, a_app, a_put, t_0, t_s, rng_of, li_zz, li_bb, li_clean, li_z, pr_zz, pr_bb, pr_clean, pr_z, ll_zz, ll_bb, ll_cleanO, ll_cleanZ, ll_z, clean, isZ, isZs, cleans, zzs, bbs, Fl.bb, dIn_li, dEq_li, dEq_pr, dEq_ll, dEq_int, taint, taints, li_taint, pr_taint, ll_taint, Fl.tt, li_len, pr_len, ll_len, keyOf, List.map_cons, List.map_nil, List.length_cons, List.length_nil, List.set_cons_zero, List.set_cons_succ, Option.map_some]
    rw [e1, ok_bind]
    have : (!Tg.within (.name 4) [4]) = false := rfl
    rw [this, if_neg (by simp)]
    rw [show ([] : List Key) = kn [] from rfl, show ([] : List D) = mt [] from rfl, key]
    simp [ok_bind]
  have k2 : evE T4 (.comp (.seq (.slot 0)) (.name 4) [4] (.some (.b (.cmp .notin (.slot 4) (.slot 3)))) (.slot 4)) [some (.lst .z (li P)), some (.lst .z (pr T)), some (.lst .z (li X)), some (.dic .o (kn X) (mt X)), none] = .ok (.lst .o (li (wo P X))) := by
    have key := compL_eq (turn := fun d => noEx ((setTg (.name 4) d (wipeE [some (.lst .z (li P)), some (.lst .z (pr T)), some (.lst .z (li X)), some (.dic .o (kn X) (mt X)), none] [4])).bind fun env' => (evTo T4 (.some (.b (.cmp .notin (.slot 4) (.slot 3)))) env').bind fun b => if b then (evE T4 (.slot 4) env').bind fun x => .ok (some x) else .ok none))
      (f := D.int) (g := fun p => if p ∈ X then none else some (.int p)) P []
      (fun p _ => by
        by_cases h : p ∈ X <;> simp [wipeE, h, mt_bb, look_mt, evSs, evS, evE, evEs, evP, evO, evTo, evT, evAnd, evOr, evTA, evTO, evIt, wp_bind, wp_nx, wp_if, wp_ok, wp_st, ok_bind, ok_nx, ok_rt, EV.R.of_some, rof_if, nxQ_nx, nxQ_rt, wp_noEx, g_0, g_s, s_0, s_s, s_t2, bb, zz, tru_bl, noEx_j, isi_list, isi_int, isi_bool, q_ll, q_llb, lenOk_of, b_add, b_sub, b_mul, b_div, b_mod, b_pow, mulOk_r, mulOk_l, divOk_of, c_lt, c_le, c_gt, c_ge, c_eq, c_ne, c_in, c_ni, dIn_dic, x_lst, x_scr, x_dic, l_lst, l_scr, l_abs, l_int, l_list, l_tup, l_sorted, l_sortedk, i_int, q_lst, q_lstp, q_b, q_bp, q_tup, q_tupp, a_app, a_put, t_0, t_s, rng_of, li_zz, li_bb, li_clean, li_z, pr_zz, pr_bb, pr_clean, pr_z, ll_zz, ll_bb, ll_cleanO, ll_cleanZ, ll_z, clean, isZ, isZs, cleans, zzs, bbs, Fl.bb, dIn_li, dEq_li, dEq_pr, dEq_ll, dEq_int, taint, taints, li_taint, pr_taint, ll_taint, Fl.tt, li_len, pr_len, ll_len, keyOf, List.map_cons, List.map_nil, List.length_cons, List.length_nil, List.set_cons_zero, List.set_cons_succ, Option.map_some])
      (fun p _ d e => by
        by_cases h : p ∈ X
        · rw [if_pos h] at e; cases e
        · rw [if_neg h] at e; cases e; rfl)
      (by show _ ≤ 16777216; simp; omega)
    have e2 : P.filterMap (fun p => if p ∈ X then none else some (D.int p)) = li (wo P X) := wo_fm X P
    rw [evE]
    have e1 : evIt T4 (.seq (.slot 0)) true [some (.lst .z (li P)), some (.lst .z (pr T)), some (.lst .z (li X)), some (.dic .o (kn X) (mt X)), none] = .ok (li P) := by simp [evSs, evS, evE, evEs, evP, evO, evTo, evT, evAnd, evOr, evTA, evTO, evIt, wp_bind, wp_nx, wp_if, wp_ok, wp_st, ok_bind, ok_nx, ok_rt, EV.R.of_some, rof_if, nxQ_nx, nxQ_rt, wp_noEx, g_0, g_s, s_0, s_s, s_t2, bb, zz, tru_bl, noEx_j, isi_list, isi_int, isi_bool, q_ll, q_llb, lenOk_of, b_add, b_sub, b_mul, b_div, b_mod, b_pow, mulOk_r, mulOk_l, divOk_of, c_lt, c_le, c_gt, c_ge, c_eq, c_ne, c_in, c_ni, dIn_dic, x_lst, x_scr, x_dic, l_lst, l_scr, l_abs, l_int, l_list, l_tup, l_sorted, l_sortedk, i_int, q_lst, q_lstp, q_b, q_bp, q_tup, q_tupp, a_app, a_put, t_0, t_s, rng_of, li_zz, li_bb, li_clean, li_z, pr_zz, pr_bb, pr_clean, pr_z, ll_zz, ll_bb, ll_cleanO, ll_cleanZ, ll_z, clean, isZ, isZs, cleans, zzs, bbs, Fl.bb, dIn_li, dEq_li, dEq_pr, dEq_ll, dEq_int, taint, taints, li_taint, pr_taint, ll_taint, Fl.tt, li_len, pr_len, ll_len, keyOf, List.map_cons, List.map_nil, List.length_cons, List.length_nil, List.set_cons_zero, List.set_cons_succ, Option.map_some]
    rw [e1, ok_bind]
    have : (!Tg.within (.name 4) [4]) = false := rfl
    rw [this, if_neg (by simp)]
    show R.bind (compL _ (P.map D.int) []) _ = _
    rw [key, ok_bind, List.nil_append, e2]
  have k3 : callD F3 [.lst .o (li (wo P X)), .lst .z (pr T)] = .ok (.lst .o (ll .o (oddf (grp (wo P X) T)))) := by
    have h1 : (wo P X).Nodup := hn.filter _
    have h2 : (wo P X).length ≤ 14 := Nat.le_trans (List.length_filter_le ..) hP
    rw [callD_b rfl (by simp [isZs, isZ])]
    show (F3.sem [.lst .z (zzs (li (wo P X))), .lst .z (zzs (pr T))]).bind _ = _
    rw [li_zz, pr_zz, odd_ok (.inl rfl) (.inl rfl) h1 h2 hT, ok_bind]
    simp [taint, ll_taint, Fl.tt]
  refine wp_eq ?_
  show Wp (noEx (runF T4 5 dr4.body _)) _
  rw [wp_noEx]
  unfold runF dr4
  show Wp (R.bind (evSs T4 _ [some (.lst .z (li P)), some (.lst .z (pr T)), some (.lst .z (li X)), none, none]) _) _
  rw [wp_bind, evSs, wp_nx, evS, k1]
  have hc : cleans (mt X) = true := mt_clean X
  simp [evSs, evS, evE.eq_1, evE.eq_2, evE.eq_3, evE.eq_4, evE.eq_5, evE.eq_6, evE.eq_7, evE.eq_8, evE.eq_9, evE.eq_10, evE.eq_11, evE.eq_12, evE.eq_13, evE.eq_14, evE.eq_15, evE.eq_16, evE.eq_17, evE.eq_18, evE.eq_19, evE.eq_20, evE.eq_21, evE.eq_22, evE.eq_23, evE.eq_24, evE.eq_27, evEs, evP, evO, evTo, evT, evAnd, evOr, evTA, evTO, evIt, wp_bind, wp_nx, wp_if, wp_ok, wp_st, ok_bind, ok_nx, ok_rt, EV.R.of_some, rof_if, nxQ_nx, nxQ_rt, wp_noEx, g_0, g_s, s_0, s_s, s_t2, bb, zz, tru_bl, noEx_j, isi_list, isi_int, isi_bool, q_ll, q_llb, lenOk_of, b_add, b_sub, b_mul, b_div, b_mod, b_pow, mulOk_r, mulOk_l, divOk_of, c_lt, c_le, c_gt, c_ge, c_eq, c_ne, c_in, c_ni, dIn_dic, x_lst, x_scr, x_dic, l_lst, l_scr, l_abs, l_int, l_list, l_tup, l_sorted, l_sortedk, i_int, q_lst, q_lstp, q_b, q_bp, q_tup, q_tupp, a_app, a_put, t_0, t_s, rng_of, li_zz, li_bb, li_clean, li_z, pr_zz, pr_bb, pr_clean, pr_z, ll_zz, ll_bb, ll_cleanO, ll_cleanZ, ll_z, clean, isZ, isZs, cleans, zzs, bbs, Fl.bb, dIn_li, dEq_li, dEq_pr, dEq_ll, dEq_int, taint, taints, li_taint, pr_taint, ll_taint, Fl.tt, li_len, pr_len, ll_len, keyOf, List.map_cons, List.map_nil, List.length_cons, List.length_nil, List.set_cons_zero, List.set_cons_succ, Option.map_some, k2, hc, t4_3, k3]
theorem bars_ok {P X : List Int} {T : List (Int × Int)} (hn : P.Nodup) (hP : P.length ≤ 14) (hT : T.length ≤ 14) (hX : X.Nodup) (hXl : X.length ≤ 14) :
    F5.sem [.lst .z (li P), .lst .z (pr T), .lst .z (li X)] = .ok (.bl (decide (X.length < (oddf (grp (wo P X) T)).length))) := by
  have k : callD F4 [.lst .z (li P), .lst .z (pr T), .lst .z (li X)] = .ok (.lst .o (ll .o (oddf (grp (wo P X) T)))) := by
    rw [callD_z rfl (by simp [isZs, isZ, li_z, pr_z]), pieces_ok hn hP hT hX hXl]
  refine wp_eq ?_
  simp [F5, runF, dr5, evSs, evS, evE, evEs, evP, evO, evTo, evT, evAnd, evOr, evTA, evTO, evIt, wp_bind, wp_nx, wp_if, wp_ok, wp_st, ok_bind, ok_nx, ok_rt, EV.R.of_some, rof_if, nxQ_nx, nxQ_rt, wp_noEx, g_0, g_s, s_0, s_s, s_t2, bb, zz, tru_bl, noEx_j, isi_list, isi_int, isi_bool, q_ll, q_llb, lenOk_of, b_add, b_sub, b_mul, b_div, b_mod, b_pow, mulOk_r, mulOk_l, divOk_of, c_lt, c_le, c_gt, c_ge, c_eq, c_ne, c_in, c_ni, dIn_dic, x_lst, x_scr, x_dic, l_lst, l_scr, l_abs, l_int, l_list, l_tup, l_sorted, l_sortedk, i_int, q_lst, q_lstp, q_b, q_bp, q_tup, q_tupp, a_app, a_put, t_0, t_s, rng_of, li_zz, li_bb, li_clean, li_z, pr_zz, pr_bb, pr_clean, pr_z, ll_zz, ll_bb, ll_cleanO, ll_cleanZ, ll_z, clean, isZ, isZs, cleans, zzs, bbs, Fl.bb, dIn_li, dEq_li, dEq_pr, dEq_ll, dEq_int, taint, taints, li_taint, pr_taint, ll_taint, Fl.tt, li_len, pr_len, ll_len, keyOf, List.map_cons, List.map_nil, List.length_cons, List.length_nil, List.set_cons_zero, List.set_cons_succ, Option.map_some, t5_4, k]
end K36
namespace K36
open PySem L2 EV
/-! ### labels -/
def lv (lab : Int → Int) (P : List Int) : List D := P.map fun p => .int (lab p)
theorem lv_li {lab : Int → Int} {P : List Int} : lv lab P = li (P.map lab) := by simp [lv, li]
theorem lv_bb {lab : Int → Int} {P : List Int} : bbs (lv lab P) = lv lab P := by rw [lv_li, li_bb]
theorem lv_zz {lab : Int → Int} {P : List Int} : zzs (lv lab P) = lv lab P := by rw [lv_li, li_zz]
theorem lv_clean {lab : Int → Int} {P : List Int} : cleans (lv lab P) = true := by rw [lv_li, li_clean]
theorem look_lv {lab : Int → Int} {x : Int} : ∀ {P : List Int}, lookK (kn P) (lv lab P) (.inl x) = if x ∈ P then some (.int (lab x)) else none
  | [] => rfl
  | p :: P => by
    show (if (Sum.inl p : Key) = .inl x then some (D.int (lab p)) else lookK (kn P) (lv lab P) (.inl x)) = _
    by_cases e : p = x
    · subst e; simp
    · have e1 : ¬(Sum.inl p : Key) = .inl x := fun z => e (Sum.inl.inj z)
      have e2 : ¬x = p := fun z => e z.symm
      rw [if_neg e1, look_lv]; simp [e2]
def ud (lab : Int → Int) (a v : Int) : Int → Int := fun p => if p = a then v else lab p
theorem set_lv {lab : Int → Int} {x v : Int} : ∀ {P : List Int}, setL (Sum.inl x : Key) (D.int v) (kn P) (lv lab P) = lv (ud lab x v) P
  | [] => rfl
  | p :: P => by
    show (if (Sum.inl p : Key) = .inl x then D.int v :: setL (.inl x) (.int v) (kn P) (lv lab P) else D.int (lab p) :: setL (.inl x) (.int v) (kn P) (lv lab P)) = _
    rw [set_lv]
    by_cases e : p = x
    · subst e; simp [lv, ud]
    · have e1 : ¬(Sum.inl p : Key) = .inl x := fun z => e (Sum.inl.inj z)
      rw [if_neg e1]; simp [lv, ud, e]
theorem put_old {lab : Int → Int} {P : List Int} {x v : Int} (hl : P.length < sizeLine) (hx : x ∈ P) : storeO (.dic .o (kn P) (lv lab P)) (.int x) (.int v) = some (.dic .o (kn P) (lv (ud lab x v) P)) := by
  have hk : (kn P).length < sizeLine := by simpa [kn] using hl
  rw [a_put, if_pos hk]
  unfold putKs putDs
  rw [if_pos (kn_mem.mpr hx), if_pos (kn_mem.mpr hx), set_lv]
theorem put_new {lab : Int → Int} {P : List Int} {x : Int} (hl : P.length < sizeLine) (hx : x ∉ P) : storeO (.dic .o (kn P) (lv lab P)) (.int x) (.int (lab x)) = some (.dic .o (kn (P ++ [x])) (lv lab (P ++ [x]))) := by
  have hk : (kn P).length < sizeLine := by simpa [kn] using hl
  have hm : (Sum.inl x : Key) ∉ kn P := fun z => hx (kn_mem.mp z)
  rw [a_put, if_pos hk]
  unfold putKs putDs
  rw [if_neg hm, if_neg hm]
  simp [kn, lv]
def idL : Int → Int := fun p => p
/-! ### what a round does -/
section
variable (P : List Int) (T : List (Int × Int))
def cnt (lab : Int → Int) (x : Int) : Nat := (P.filter fun p => decide (lab p ≤ x)).length
structure Lb (lab : Int → Int) : Prop where
  rc : ∀ p ∈ P, Rch (adj P T) p (lab p)
  le : ∀ p ∈ P, lab p ≤ p
def Rd (k : Nat) (lab : Int → Int) : Prop := ∀ x ∈ P, k + 1 ≤ cnt P lab x ∨ ∀ p, Rch (adj P T) x p → lab p ≤ x
def low (lab : Int → Int) (t : Int × Int) : Int := if lab t.2 < lab t.1 then lab t.2 else lab t.1
def tieL (lab : Int → Int) (t : Int × Int) : Int → Int := if t.1 ∈ P ∧ t.2 ∈ P then ud (ud lab t.1 (low lab t)) t.2 (low lab t) else lab
end
theorem rch_trans {h : Int → List Int} {a b c : Int} (r : Rch h a b) (s : Rch h b c) : Rch h a c := by
  induction s with
  | refl => exact r
  | step _ hx ih => exact .step ih hx
theorem rch_symm {h : Int → List Int} (sy : ∀ p x, x ∈ h p → p ∈ h x) {a b : Int} (r : Rch h a b) : Rch h b a := by
  induction r with
  | refl => exact .refl
  | step _ hx ih => exact rch_trans (.step .refl (sy _ _ hx)) ih
theorem rch_in {P : List Int} {T : List (Int × Int)} {a b : Int} (ha : a ∈ P) (r : Rch (adj P T) a b) : b ∈ P := by
  induction r with
  | refl => exact ha
  | step _ hx _ => exact (mem_adj.mp hx).2.2
theorem low_le (lab : Int → Int) (t : Int × Int) : low lab t ≤ lab t.1 ∧ low lab t ≤ lab t.2 := by
  unfold low
  split <;> omega
theorem ud_at {lab : Int → Int} {a v : Int} : ud lab a v a = v := by simp [ud]
theorem ud_ne {lab : Int → Int} {a v p : Int} (h : p ≠ a) : ud lab a v p = lab p := by simp [ud, h]
theorem tie_vals {P : List Int} {lab : Int → Int} {t : Int × Int} (h1 : t.1 ∈ P) (h2 : t.2 ∈ P) : tieL P lab t t.1 = low lab t ∧ tieL P lab t t.2 = low lab t ∧ ∀ p, p ≠ t.1 → p ≠ t.2 → tieL P lab t p = lab p := by
  unfold tieL
  rw [if_pos ⟨h1, h2⟩]
  refine ⟨?_, ud_at, fun p e1 e2 => by rw [ud_ne e2, ud_ne e1]⟩
  by_cases e : t.1 = t.2
  · rw [e]; exact ud_at
  · rw [ud_ne e, ud_at]
theorem tie_mono {P : List Int} {lab : Int → Int} {t : Int × Int} (p : Int) : tieL P lab t p ≤ lab p := by
  by_cases c : t.1 ∈ P ∧ t.2 ∈ P
  · obtain ⟨v1, v2, v3⟩ := tie_vals (lab := lab) c.1 c.2
    have hl := low_le lab t
    by_cases e1 : p = t.1
    · subst e1; rw [v1]; exact hl.1
    · by_cases e2 : p = t.2
      · subst e2; rw [v2]; exact hl.2
      · rw [v3 p e1 e2]; exact Int.le_refl _
  · unfold tieL; rw [if_neg c]; exact Int.le_refl _
theorem tie_lb {P : List Int} {T : List (Int × Int)} {lab : Int → Int} {t : Int × Int} (ht : t ∈ T) (L : Lb P T lab) : Lb P T (tieL P lab t) := by
  refine ⟨fun p hp => ?_, fun p hp => Int.le_trans (tie_mono p) (L.le p hp)⟩
  by_cases c : t.1 ∈ P ∧ t.2 ∈ P
  · obtain ⟨v1, v2, v3⟩ := tie_vals (lab := lab) c.1 c.2
    have a12 : t.2 ∈ adj P T t.1 := mem_adj.mpr ⟨.inl ht, c.1, c.2⟩
    have a21 : t.1 ∈ adj P T t.2 := adj_sym a12
    have r1 : Rch (adj P T) t.1 (low lab t) := by
      unfold low
      split
      · exact rch_trans (.step .refl a12) (L.rc _ c.2)
      · exact L.rc _ c.1
    have r2 : Rch (adj P T) t.2 (low lab t) := rch_trans (.step .refl a21) r1
    by_cases e1 : p = t.1
    · subst e1; rw [v1]; exact r1
    · by_cases e2 : p = t.2
      · subst e2; rw [v2]; exact r2
      · rw [v3 p e1 e2]; exact L.rc p hp
  · unfold tieL; rw [if_neg c]; exact L.rc p hp
theorem cnt_le {P : List Int} {lab : Int → Int} {x : Int} : cnt P lab x ≤ P.length := List.length_filter_le ..
theorem filter_grow {P : List Int} {f g : Int → Bool} (h : ∀ p ∈ P, f p = true → g p = true) : (P.filter f).length ≤ (P.filter g).length := by
  induction P with
  | nil => simp
  | cons p P ih =>
    have ih := ih fun q hq => h q (by simp [hq])
    rw [List.filter_cons, List.filter_cons]
    cases e : f p with
    | true => rw [h p (by simp) e]; simp; omega
    | false => cases g p <;> simp <;> omega
theorem filter_same {P : List Int} {f g : Int → Bool} (h : ∀ p ∈ P, f p = true → g p = true) (l : (P.filter g).length ≤ (P.filter f).length) : ∀ p ∈ P, g p = true → f p = true := by
  induction P with
  | nil => intro p hp; simp at hp
  | cons q P ih =>
    have h' : ∀ p ∈ P, f p = true → g p = true := fun p hp => h p (by simp [hp])
    have gr := filter_grow h'
    rw [List.filter_cons, List.filter_cons] at l
    intro p hp hg
    rcases List.mem_cons.mp hp with rfl | hp
    · cases e : f p with
      | true => rfl
      | false => rw [hg, e] at l; simp at l; omega
    · refine ih h' ?_ p hp hg
      cases e : f q with
      | true => rw [h q (by simp) e, e] at l; simpa using l
      | false =>
        rw [e] at l
        cases e2 : g q with
        | true => rw [e2] at l; simp at l; omega
        | false => rw [e2] at l; simpa using l
/-- a whole round: labels fall to the neighbours' old ones -/
theorem round_ok {P : List Int} {T : List (Int × Int)} {k : Nat} {lab lab' : Int → Int} (L : Lb P T lab) (R : Rd P T k lab) (M : ∀ p, lab' p ≤ lab p) (N : ∀ t ∈ T, t.1 ∈ P → t.2 ∈ P → lab' t.1 ≤ lab t.2 ∧ lab' t.2 ≤ lab t.1) : Rd P T (k + 1) lab' := by
  intro x hx
  rcases R x hx with h | h
  rotate_left
  · exact .inr fun p r => Int.le_trans (M p) (h p r)
  by_cases hc : k + 1 + 1 ≤ cnt P lab' x
  · exact .inl hc
  · refine .inr ?_
    have sub : ∀ p ∈ P, decide (lab p ≤ x) = true → decide (lab' p ≤ x) = true := fun p _ e => by
      simp only [decide_eq_true_eq] at e ⊢
      exact Int.le_trans (M p) e
    have eqv := filter_same sub (by unfold cnt at h hc; omega)
    intro p r
    induction r with
    | refl => exact Int.le_trans (M x) (L.le x hx)
    | step r0 hp ih =>
      rename_i q p
      have hq := rch_in hx r0
      have h1 := eqv q hq (by simpa using ih)
      simp only [decide_eq_true_eq] at h1
      obtain ⟨hm, _, hpP⟩ := mem_adj.mp hp
      rcases hm with hm | hm
      · exact Int.le_trans (N _ hm hq hpP).2 h1
      · exact Int.le_trans (N _ hm hpP hq).1 h1
theorem start_lb {P : List Int} {T : List (Int × Int)} : Lb P T idL ∧ Rd P T 0 idL := by
  refine ⟨⟨fun p _ => .refl, fun p _ => Int.le_refl _⟩, fun x hx => .inl ?_⟩
  unfold cnt idL
  have : x ∈ P.filter fun p => decide (p ≤ x) := List.mem_filter.mpr ⟨hx, by simp⟩
  have := List.length_pos_of_mem this
  omega
theorem end_lb {P : List Int} {T : List (Int × Int)} {lab : Int → Int} (R : Rd P T P.length lab) : ∀ x ∈ P, ∀ p, Rch (adj P T) x p → lab p ≤ x := fun x hx => by
  rcases R x hx with h | h
  · have := cnt_le (P := P) (lab := lab) (x := x); omega
  · exact h
/-! ### labels and groups -/
theorem asc_ext : ∀ {L M : List Int}, L.Pairwise (· < ·) → M.Pairwise (· < ·) → (∀ x, x ∈ L ↔ x ∈ M) → L = M
  | [], [], _, _, _ => rfl
  | [], y :: M, _, _, h => by have := (h y).mpr (by simp); simp at this
  | x :: L, [], _, _, h => by have := (h x).mp (by simp); simp at this
  | x :: L, y :: M, hL, hM, h => by
    rw [List.pairwise_cons] at hL hM
    have e : x = y := by
      rcases List.mem_cons.mp ((h x).mp (by simp)) with e | h1
      · exact e
      · rcases List.mem_cons.mp ((h y).mpr (by simp)) with e | h2
        · exact e.symm
        · have := hL.1 y h2
          have := hM.1 x h1
          omega
    subst e
    congr 1
    refine asc_ext hL.2 hM.2 fun z => ?_
    constructor
    · intro hz
      rcases List.mem_cons.mp ((h z).mp (by simp [hz])) with e | h1
      · subst e; have := hL.1 z hz; omega
      · exact h1
    · intro hz
      rcases List.mem_cons.mp ((h z).mpr (by simp [hz])) with e | h1
      · subst e; have := hM.1 z hz; omega
      · exact h1
def cls (P : List Int) (lab : Int → Int) (p : Int) : List Int := (sortI P).filter fun o => decide (lab o = p)
def lgr (P : List Int) (lab : Int → Int) (L : List Int) : List (List Int) := (L.filter fun p => decide (lab p = p)).map (cls P lab)
theorem lgr_snoc {P : List Int} {lab : Int → Int} {L : List Int} {p : Int} : lgr P lab (L ++ [p]) = if lab p = p then lgr P lab L ++ [cls P lab p] else lgr P lab L := by
  unfold lgr
  rw [List.filter_append, List.map_append]
  by_cases h : lab p = p <;> simp [List.filter_cons, h]
theorem lgr_grp {P : List Int} {T : List (Int × Int)} {lab : Int → Int} (hn : P.Nodup) (hP : P.length ≤ 14) (L : Lb P T lab) (R : Rd P T P.length lab) : lgr P lab (sortI P) = grp P T := by
  have sy : ∀ p x, x ∈ adj P T p → p ∈ adj P T x := fun p x => adj_sym
  have hh : ∀ p ∈ P, ∀ x ∈ adj P T p, x ∈ P := fun p _ x hx => (mem_adj.mp hx).2.2
  have low := end_lb R
  have same : ∀ p ∈ P, ∀ q, Rch (adj P T) p q → lab p = lab q := fun p hp q r => by
    have hq := rch_in hp r
    have h1 : lab q ≤ lab p := low (lab p) (rch_in hp (L.rc p hp)) q (rch_trans (rch_symm sy (L.rc p hp)) r)
    have h2 : lab p ≤ lab q := low (lab q) (rch_in hq (L.rc q hq)) p (rch_trans (rch_symm sy (L.rc q hq)) (rch_symm sy r))
    omega
  have key : ∀ i, i ≤ P.length → lgr P lab ((sortI P).take i) = (grs P (adj P T) ((sortI P).take i)).1 := fun i => by
    induction i with
    | zero => intro _; rfl
    | succ i ih =>
      intro hi
      have S := st_all sy hh hP hn i (by omega)
      have hl : i < (sortI P).length := by rw [sortI_len]; omega
      have e := List.getElem?_eq_getElem hl
      have sa := sorted_at (sortI_lt hn) e
      have hpP : (sortI P)[i] ∈ P := sortI_mem.mp (List.getElem_mem hl)
      rw [take_succ' e, lgr_snoc, grs_snoc, ih (by omega)]
      generalize (sortI P)[i] = p at sa hpP
      unfold gst
      by_cases hm : p ∈ (grs P (adj P T) ((sortI P).take i)).2
      · rw [if_pos hm]
        obtain ⟨g, hg, hpg⟩ := S.cov p hm
        obtain ⟨s, hs, rfl⟩ := S.gg g hg
        obtain ⟨_, fd, hc⟩ := rcl_all hs hh hP
        have hhd := S.hdn _ hg
        cases eh : sortI (rcl P (adj P T) s) with
        | nil => rw [eh] at hpg; simp at hpg
        | cons y ys =>
          rw [eh] at hhd
          have y1 := hhd y (by simp)
          have ym : y ∈ rcl P (adj P T) s := sortI_mem.mp (by rw [eh]; simp)
          have yp : y < p := sa.1 y y1
          have ry : Rch (adj P T) y p := rch_trans (rch_symm sy (fd.rc y ym)) (fd.rc p (sortI_mem.mp hpg))
          have := low y (fd.sub y ym) p ry
          rw [if_neg (by omega)]
      · rw [if_neg hm]
        obtain ⟨_, fd, hc⟩ := rcl_all hpP hh hP
        have hlp : lab p = p := by
          have h1 := L.le p hpP
          by_cases h2 : lab p < p
          · exfalso
            have hlP := rch_in hpP (L.rc p hpP)
            have hd := sa.2 (lab p) (sortI_mem.mpr hlP) h2
            have hz := S.dnm _ hd
            have fwd : ∀ q, Rch (adj P T) (lab p) q → q ∈ (grs P (adj P T) ((sortI P).take i)).2 := fun q r => by
              induction r with
              | refl => exact hz
              | step _ hx ih => exact S.mcl _ ih _ hx
            exact hm (fwd p (rch_symm sy (L.rc p hpP)))
          · omega
        rw [if_pos hlp]
        have : cls P lab p = sortI (rcl P (adj P T) p) := by
          refine asc_ext ((sortI_lt hn).filter _) (sortI_lt fd.nd) fun o => ?_
          unfold cls
          rw [List.mem_filter, sortI_mem, sortI_mem, decide_eq_true_eq]
          constructor
          · rintro ⟨ho, e⟩
            have ro := L.rc o ho
            rw [e] at ro
            have fwd : ∀ q, Rch (adj P T) p q → q ∈ rcl P (adj P T) p := fun q r => by
              induction r with
              | refl => exact fd.hs
              | step _ hx ih => exact hc _ ih _ hx
            exact fwd o (rch_symm sy ro)
          · intro ho
            exact ⟨fd.sub o ho, by rw [← same p hpP o (fd.rc o ho), hlp]⟩
        rw [this]
  have := key P.length (Nat.le_refl _)
  have et : (sortI P).take P.length = sortI P := by rw [← sortI_len, List.take_length]
  rw [et] at this
  exact this
end K36
namespace K36
open PySem L2 EV
section
variable (P : List Int) (T : List (Int × Int))
def G1 (i : Nat) (e : EV.Env) : Prop := ∃ v3 v4 v5 v6 v7 v8 : Option D, e = [some (.lst .z (li P)), some (.lst .z (pr T)), some (.dic .o (kn (P.take i)) (lv idL (P.take i))), v3, v4, v5, v6, v7, v8]
def G2 (i : Nat) (e : EV.Env) : Prop := ∃ (lab : Int → Int) (v3 v4 v5 v6 v7 v8 : Option D), e = [some (.lst .z (li P)), some (.lst .z (pr T)), some (.dic .o (kn P) (lv lab P)), v3, v4, v5, v6, v7, v8] ∧ Lb P T lab ∧ Rd P T i lab
def G3 (lab0 : Int → Int) (j : Nat) (e : EV.Env) : Prop := ∃ (lab : Int → Int) (v3 v4 v5 v6 v7 v8 : Option D), e = [some (.lst .z (li P)), some (.lst .z (pr T)), some (.dic .o (kn P) (lv lab P)), v3, v4, v5, v6, v7, v8] ∧ Lb P T lab ∧ (∀ p, lab p ≤ lab0 p) ∧
  ∀ t ∈ T.take j, t.1 ∈ P → t.2 ∈ P → lab t.1 ≤ lab0 t.2 ∧ lab t.2 ≤ lab0 t.1
def G4 (lab : Int → Int) (i : Nat) (e : EV.Env) : Prop := ∃ v3 v4 v5 v6 v7 : Option D, e = [some (.lst .z (li P)), some (.lst .z (pr T)), some (.dic .z (kn P) (lv lab P)), v3, v4, v5, v6, v7, some (.lst .o (ll .o (lgr P lab ((sortI P).take i))))]
end
theorem comp_cls {P : List Int} {b v4 v5 v6 v7 v8 : Option D} {lab : Int → Int} {p : Int} (hP : P.length ≤ 14) :
    evE T11 (.comp (.seq (.blt .sorted (.slot 0))) (.name 6) [6] (.some (.b (.cmp .eq (.ix (.slot 2) (.slot 6)) (.slot 3)))) (.slot 6)) [some (.lst .z (li P)), b, some (.dic .z (kn P) (lv lab P)), some (.int p), v4, v5, v6, v7, v8] = .ok (.lst .o (li (cls P lab p))) := by
  have key := compL_eq (turn := fun d => noEx ((setTg (.name 6) d (wipeE [some (.lst .z (li P)), b, some (.dic .z (kn P) (lv lab P)), some (.int p), v4, v5, v6, v7, v8] [6])).bind fun env' => (evTo T11 (.some (.b (.cmp .eq (.ix (.slot 2) (.slot 6)) (.slot 3)))) env').bind fun b => if b then (evE T11 (.slot 6) env').bind fun x => .ok (some x) else .ok none))
    (f := D.int) (g := fun o => if lab o = p then some (.int o) else none) (sortI P) []
    (fun o ho => by
      have hoP : o ∈ P := sortI_mem.mp ho
      by_cases h : lab o = p <;> simp [wipeE, h, hoP, look_lv, lv_bb, dEq_int, evSs, evS, evE, evEs, evP, evO, evTo, evT, evAnd, evOr, evTA, evTO, evIt, wp_bind, wp_nx, wp_if, wp_ok, wp_st, ok_bind, ok_nx, ok_rt, EV.R.of_some, rof_if, nxQ_nx, nxQ_rt, wp_noEx, g_0, g_s, s_0, s_s, s_t2, bb, zz, tru_bl, noEx_j, isi_list, isi_int, isi_bool, q_ll, q_llb, lenOk_of, b_add, b_sub, b_mul, b_div, b_mod, b_pow, mulOk_r, mulOk_l, divOk_of, c_lt, c_le, c_gt, c_ge, c_eq, c_ne, c_in, c_ni, dIn_dic, x_lst, x_scr, x_dic, l_lst, l_scr, l_abs, l_int, l_list, l_tup, l_sorted, l_sortedk, i_int, q_lst, q_lstp, q_b, q_bp, q_tup, q_tupp, a_app, a_put, t_0, t_s, rng_of, li_zz, li_bb, li_clean, li_z, pr_zz, pr_bb, pr_clean, pr_z, ll_zz, ll_bb, ll_cleanO, ll_cleanZ, ll_z, clean, isZ, isZs, cleans, zzs, bbs, Fl.bb, dIn_li, dEq_li, dEq_pr, dEq_ll, dEq_int, taint, taints, li_taint, pr_taint, ll_taint, Fl.tt, li_len, pr_len, ll_len, keyOf, List.map_cons, List.map_nil, List.length_cons, List.length_nil, List.set_cons_zero, List.set_cons_succ, Option.map_some])
    (fun o _ d e => by
      by_cases h : lab o = p
      · rw [if_pos h] at e; cases e; rfl
      · rw [if_neg h] at e; cases e)
    (by rw [sortI_len]; show _ ≤ 16777216; simp; omega)
  have e2 : ∀ L : List Int, L.filterMap (fun o => if lab o = p then some (D.int o) else none) = li (L.filter fun o => decide (lab o = p)) := fun L => by
    induction L with
    | nil => rfl
    | cons o L ih =>
      rw [List.filterMap_cons, List.filter_cons, ih]
      by_cases h : lab o = p
      · simp [h, li]
      · simp [h]
  rw [evE]
  have e1 : evIt T11 (.seq (.blt .sorted (.slot 0))) true [some (.lst .z (li P)), b, some (.dic .z (kn P) (lv lab P)), some (.int p), v4, v5, v6, v7, v8] = .ok (li (sortI P)) := by simp [evSs, evS, evE, evEs, evP, evO, evTo, evT, evAnd, evOr, evTA, evTO, evIt, wp_bind, wp_nx, wp_if, wp_ok, wp_st, ok_bind, ok_nx, ok_rt, EV.R.of_some, rof_if, nxQ_nx, nxQ_rt, wp_noEx, g_0, g_s, s_0, s_s, s_t2, bb, zz, tru_bl, noEx_j, isi_list, isi_int, isi_bool, q_ll, q_llb, lenOk_of, b_add, b_sub, b_mul, b_div, b_mod, b_pow, mulOk_r, mulOk_l, divOk_of, c_lt, c_le, c_gt, c_ge, c_eq, c_ne, c_in, c_ni, dIn_dic, x_lst, x_scr, x_dic, l_lst, l_scr, l_abs, l_int, l_list, l_tup, l_sorted, l_sortedk, i_int, q_lst, q_lstp, q_b, q_bp, q_tup, q_tupp, a_app, a_put, t_0, t_s, rng_of, li_zz, li_bb, li_clean, li_z, pr_zz, pr_bb, pr_clean, pr_z, ll_zz, ll_bb, ll_cleanO, ll_cleanZ, ll_z, clean, isZ, isZs, cleans, zzs, bbs, Fl.bb, dIn_li, dEq_li, dEq_pr, dEq_ll, dEq_int, taint, taints, li_taint, pr_taint, ll_taint, Fl.tt, li_len, pr_len, ll_len, keyOf, List.map_cons, List.map_nil, List.length_cons, List.length_nil, List.set_cons_zero, List.set_cons_succ, Option.map_some]
  rw [e1, ok_bind]
  have : (!Tg.within (.name 6) [6]) = false := rfl
  rw [this, if_neg (by simp)]
  show R.bind (compL _ ((sortI P).map D.int) []) _ = _
  rw [key, ok_bind, List.nil_append, e2]; rfl
theorem groups_ok {P : List Int} {T : List (Int × Int)} (hn : P.Nodup) (hP : P.length ≤ 14) (hT : T.length ≤ 14) :
    F11.sem [.lst .z (li P), .lst .z (pr T)] = .ok (.lst .o (ll .o (grp P T))) := by
  have hs : P.length < sizeLine := by show _ < 16777216; omega
  refine wp_eq ?_
  have rg : ∀ a b v3 v4 v5 v6 v7 v8, evIt T11 (.r1 (.blt .len (.slot 0))) false [some (.lst .z (li P)), a, b, v3, v4, v5, v6, v7, v8] = .ok (rangeD 0 P.length) := fun a b v3 v4 v5 v6 v7 v8 => it_r1 (by simp [evSs, evS, evE, evEs, evP, evO, evTo, evT, evAnd, evOr, evTA, evTO, wp_bind, wp_nx, wp_if, wp_ok, wp_st, ok_bind, ok_nx, ok_rt, EV.R.of_some, rof_if, nxQ_nx, nxQ_rt, wp_noEx, g_0, g_s, s_0, s_s, s_t2, bb, zz, tru_bl, noEx_j, isi_list, isi_int, isi_bool, q_ll, q_llb, lenOk_of, b_add, b_sub, b_mul, b_div, b_mod, b_pow, mulOk_r, mulOk_l, divOk_of, c_lt, c_le, c_gt, c_ge, c_eq, c_ne, c_in, c_ni, dIn_dic, x_lst, x_scr, x_dic, l_lst, l_scr, l_abs, l_int, l_list, l_tup, l_sorted, l_sortedk, i_int, q_lst, q_lstp, q_b, q_bp, q_tup, q_tupp, a_app, a_put, t_0, t_s, rng_of, li_zz, li_bb, li_clean, li_z, pr_zz, pr_bb, pr_clean, pr_z, ll_zz, ll_bb, ll_cleanO, ll_cleanZ, ll_z, clean, isZ, isZs, cleans, zzs, bbs, Fl.bb, dIn_li, dEq_li, dEq_pr, dEq_ll, dEq_int, taint, taints, li_taint, pr_taint, ll_taint, Fl.tt, li_len, pr_len, ll_len, keyOf, List.map_cons, List.map_nil, List.length_cons, List.length_nil, List.set_cons_zero, List.set_cons_succ, Option.map_some]) (by omega)
  simp [F11, runF, dr11, evSs, evS, evE.eq_1, evE.eq_2, evE.eq_3, evE.eq_4, evE.eq_5, evE.eq_6, evE.eq_7, evE.eq_8, evE.eq_9, evE.eq_10, evE.eq_11, evE.eq_12, evE.eq_13, evE.eq_14, evE.eq_15, evE.eq_16, evE.eq_17, evE.eq_18, evE.eq_19, evE.eq_20, evE.eq_21, evE.eq_22, evE.eq_23, evE.eq_24, evE.eq_27, evEs, evP, evO, evTo, evT, evAnd, evOr, evTA, evTO, wp_bind, wp_nx, wp_if, wp_ok, wp_st, ok_bind, ok_nx, ok_rt, EV.R.of_some, rof_if, nxQ_nx, nxQ_rt, wp_noEx, g_0, g_s, s_0, s_s, s_t2, bb, zz, tru_bl, noEx_j, isi_list, isi_int, isi_bool, q_ll, q_llb, lenOk_of, b_add, b_sub, b_mul, b_div, b_mod, b_pow, mulOk_r, mulOk_l, divOk_of, c_lt, c_le, c_gt, c_ge, c_eq, c_ne, c_in, c_ni, dIn_dic, x_lst, x_scr, x_dic, l_lst, l_scr, l_abs, l_int, l_list, l_tup, l_sorted, l_sortedk, i_int, q_lst, q_lstp, q_b, q_bp, q_tup, q_tupp, a_app, a_put, t_0, t_s, rng_of, li_zz, li_bb, li_clean, li_z, pr_zz, pr_bb, pr_clean, pr_z, ll_zz, ll_bb, ll_cleanO, ll_cleanZ, ll_z, clean, isZ, isZs, cleans, zzs, bbs, Fl.bb, dIn_li, dEq_li, dEq_pr, dEq_ll, dEq_int, taint, taints, li_taint, pr_taint, ll_taint, Fl.tt, li_len, pr_len, ll_len, keyOf, List.map_cons, List.map_nil, List.length_cons, List.length_nil, List.set_cons_zero, List.set_cons_succ, Option.map_some, evIt.eq_3]
  refine wp_for (G1 P T) ⟨none, none, none, none, none, none, rfl⟩ ?_ ?_
  · rintro i d e hi ⟨v3, v4, v5, v6, v7, v8, rfl⟩
    rw [li_get] at hi
    cases hp : P[i]? with
    | none => rw [hp] at hi; cases hi
    | some p =>
      rw [hp] at hi
      cases hi
      have hi2 : i < P.length := (List.getElem?_eq_some_iff.mp hp).1
      have hpi : P[i] = p := (List.getElem?_eq_some_iff.mp hp).2
      have hm : p ∉ P.take i := fun z => by
        obtain ⟨j, hj, e⟩ := List.mem_iff_getElem.mp z
        rw [List.getElem_take] at e
        have hj2 : j < i := by simp at hj; omega
        have := (List.getElem_inj hn).mp (e.trans hpi.symm)
        omega
      have hl : (P.take i).length < sizeLine := by simp; omega
      have pn : storeO (D.dic Fl.o (kn (P.take i)) (lv idL (P.take i))) (D.int p) (D.int p) = _ := put_new (lab := idL) hl hm
      simp [pn, evSs, evS, evE, evEs, evP, evO, evTo, evT, evAnd, evOr, evTA, evTO, evIt, wp_bind, wp_nx, wp_if, wp_ok, wp_st, ok_bind, ok_nx, ok_rt, EV.R.of_some, rof_if, nxQ_nx, nxQ_rt, wp_noEx, g_0, g_s, s_0, s_s, s_t2, bb, zz, tru_bl, noEx_j, isi_list, isi_int, isi_bool, q_ll, q_llb, lenOk_of, b_add, b_sub, b_mul, b_div, b_mod, b_pow, mulOk_r, mulOk_l, divOk_of, c_lt, c_le, c_gt, c_ge, c_eq, c_ne, c_in, c_ni, dIn_dic, x_lst, x_scr, x_dic, l_lst, l_scr, l_abs, l_int, l_list, l_tup, l_sorted, l_sortedk, i_int, q_lst, q_lstp, q_b, q_bp, q_tup, q_tupp, a_app, t_0, t_s, rng_of, li_zz, li_bb, li_clean, li_z, pr_zz, pr_bb, pr_clean, pr_z, ll_zz, ll_bb, ll_cleanO, ll_cleanZ, ll_z, clean, isZ, isZs, cleans, zzs, bbs, Fl.bb, dIn_li, dEq_li, dEq_pr, dEq_ll, dEq_int, taint, taints, li_taint, pr_taint, ll_taint, Fl.tt, li_len, pr_len, ll_len, keyOf, List.map_cons, List.map_nil, List.length_cons, List.length_nil, List.set_cons_zero, List.set_cons_succ, Option.map_some]
      exact post_nx ⟨_, _, _, _, _, _, by rw [take_succ' hp]⟩
  · rintro e ⟨v3, v4, v5, v6, v7, v8, rfl⟩
    rw [li_len, List.take_length]
    simp [evSs, evS, evE.eq_1, evE.eq_2, evE.eq_3, evE.eq_4, evE.eq_5, evE.eq_6, evE.eq_7, evE.eq_8, evE.eq_9, evE.eq_10, evE.eq_11, evE.eq_12, evE.eq_13, evE.eq_14, evE.eq_15, evE.eq_16, evE.eq_17, evE.eq_18, evE.eq_19, evE.eq_20, evE.eq_21, evE.eq_22, evE.eq_23, evE.eq_24, evE.eq_27, evEs, evP, evO, evTo, evT, evAnd, evOr, evTA, evTO, wp_bind, wp_nx, wp_if, wp_ok, wp_st, ok_bind, ok_nx, ok_rt, EV.R.of_some, rof_if, nxQ_nx, nxQ_rt, wp_noEx, g_0, g_s, s_0, s_s, s_t2, bb, zz, tru_bl, noEx_j, isi_list, isi_int, isi_bool, q_ll, q_llb, lenOk_of, b_add, b_sub, b_mul, b_div, b_mod, b_pow, mulOk_r, mulOk_l, divOk_of, c_lt, c_le, c_gt, c_ge, c_eq, c_ne, c_in, c_ni, dIn_dic, x_lst, x_scr, x_dic, l_lst, l_scr, l_abs, l_int, l_list, l_tup, l_sorted, l_sortedk, i_int, q_lst, q_lstp, q_b, q_bp, q_tup, q_tupp, a_app, a_put, t_0, t_s, rng_of, li_zz, li_bb, li_clean, li_z, pr_zz, pr_bb, pr_clean, pr_z, ll_zz, ll_bb, ll_cleanO, ll_cleanZ, ll_z, clean, isZ, isZs, cleans, zzs, bbs, Fl.bb, dIn_li, dEq_li, dEq_pr, dEq_ll, dEq_int, taint, taints, li_taint, pr_taint, ll_taint, Fl.tt, li_len, pr_len, ll_len, keyOf, List.map_cons, List.map_nil, List.length_cons, List.length_nil, List.set_cons_zero, List.set_cons_succ, Option.map_some, evIt.eq_3, rg]
    refine wp_for (G2 P T) ⟨idL, v3, v4, v5, v6, v7, v8, rfl, start_lb.1, start_lb.2⟩ ?_ ?_
    · rintro i d e hi ⟨lab0, v3, v4, v5, v6, v7, v8, rfl, L0, R0⟩
      obtain ⟨rfl, hi2⟩ := range_get hi
      simp [evSs, evS, evE, evEs, evP, evO, evTo, evT, evAnd, evOr, evTA, evTO, evIt, wp_bind, wp_nx, wp_if, wp_ok, wp_st, ok_bind, ok_nx, ok_rt, EV.R.of_some, rof_if, nxQ_nx, nxQ_rt, wp_noEx, g_0, g_s, s_0, s_s, s_t2, bb, zz, tru_bl, noEx_j, isi_list, isi_int, isi_bool, q_ll, q_llb, lenOk_of, b_add, b_sub, b_mul, b_div, b_mod, b_pow, mulOk_r, mulOk_l, divOk_of, c_lt, c_le, c_gt, c_ge, c_eq, c_ne, c_in, c_ni, dIn_dic, x_lst, x_scr, x_dic, l_lst, l_scr, l_abs, l_int, l_list, l_tup, l_sorted, l_sortedk, i_int, q_lst, q_lstp, q_b, q_bp, q_tup, q_tupp, a_app, a_put, t_0, t_s, rng_of, li_zz, li_bb, li_clean, li_z, pr_zz, pr_bb, pr_clean, pr_z, ll_zz, ll_bb, ll_cleanO, ll_cleanZ, ll_z, clean, isZ, isZs, cleans, zzs, bbs, Fl.bb, dIn_li, dEq_li, dEq_pr, dEq_ll, dEq_int, taint, taints, li_taint, pr_taint, ll_taint, Fl.tt, li_len, pr_len, ll_len, keyOf, List.map_cons, List.map_nil, List.length_cons, List.length_nil, List.set_cons_zero, List.set_cons_succ, Option.map_some]
      refine wp_for (G3 P T lab0) ⟨lab0, v3, _, v5, v6, v7, v8, rfl, L0, fun p => Int.le_refl _, by simp⟩ ?_ ?_
      · rintro j d e hj ⟨lab, v3, v4, v5, v6, v7, v8, rfl, L, M, N⟩
        rw [pr_get] at hj
        cases ht : T[j]? with
        | none => rw [ht] at hj; cases hj
        | some t =>
          rw [ht] at hj
          cases hj
          have htm : t ∈ T := List.mem_of_getElem? ht
          have nxt : ∀ lab', lab' = tieL P lab t → Lb P T lab' ∧ (∀ p, lab' p ≤ lab0 p) ∧ ∀ u ∈ T.take (j + 1), u.1 ∈ P → u.2 ∈ P → lab' u.1 ≤ lab0 u.2 ∧ lab' u.2 ≤ lab0 u.1 := by
            rintro lab' rfl
            refine ⟨tie_lb htm L, fun p => Int.le_trans (tie_mono p) (M p), fun u hu h1 h2 => ?_⟩
            rw [take_succ' ht, List.mem_append] at hu
            rcases hu with hu | hu
            · have := N u hu h1 h2
              exact ⟨Int.le_trans (tie_mono _) this.1, Int.le_trans (tie_mono _) this.2⟩
            · simp at hu
              subst hu
              obtain ⟨w1, w2, _⟩ := tie_vals (lab := lab) h1 h2
              have hl := low_le lab u
              rw [w1, w2]
              exact ⟨Int.le_trans hl.2 (M _), Int.le_trans hl.1 (M _)⟩
          have out : ¬(t.1 ∈ P ∧ t.2 ∈ P) → lab = tieL P lab t := fun c => by unfold tieL; rw [if_neg c]
          simp [evSs, evS, evE, evEs, evP, evO, evTo, evT, evAnd, evOr, evTA, evTO, evIt, wp_bind, wp_nx, wp_if, wp_ok, wp_st, ok_bind, ok_nx, ok_rt, EV.R.of_some, rof_if, nxQ_nx, nxQ_rt, wp_noEx, g_0, g_s, s_0, s_s, s_t2, bb, zz, tru_bl, noEx_j, isi_list, isi_int, isi_bool, q_ll, q_llb, lenOk_of, b_add, b_sub, b_mul, b_div, b_mod, b_pow, mulOk_r, mulOk_l, divOk_of, c_lt, c_le, c_gt, c_ge, c_eq, c_ne, c_in, c_ni, dIn_dic, x_lst, x_scr, x_dic, l_lst, l_scr, l_abs, l_int, l_list, l_tup, l_sorted, l_sortedk, i_int, q_lst, q_lstp, q_b, q_bp, q_tup, q_tupp, a_app, t_0, t_s, rng_of, li_zz, li_bb, li_clean, li_z, pr_zz, pr_bb, pr_clean, pr_z, ll_zz, ll_bb, ll_cleanO, ll_cleanZ, ll_z, clean, isZ, isZs, cleans, zzs, bbs, Fl.bb, dIn_li, dEq_li, dEq_pr, dEq_ll, dEq_int, taint, taints, li_taint, pr_taint, ll_taint, Fl.tt, li_len, pr_len, ll_len, keyOf, List.map_cons, List.map_nil, List.length_cons, List.length_nil, List.set_cons_zero, List.set_cons_succ, Option.map_some, lv_bb, look_lv]
          refine ⟨fun h1 => ⟨fun h2 => ?_, fun h2 => ?_⟩, fun h1 => ?_⟩
          · have e1 := put_old (lab := lab) (x := t.1) (v := low lab t) hs h1
            have e2 := put_old (lab := ud lab t.1 (low lab t)) (x := t.2) (v := low lab t) hs h2
            have el : (if lab t.2 < lab t.1 then lab t.2 else lab t.1) = low lab t := rfl
            simp [h1, h2, el, e1, e2, evSs, evS, evE, evEs, evP, evO, evTo, evT, evAnd, evOr, evTA, evTO, evIt, wp_bind, wp_nx, wp_if, wp_ok, wp_st, ok_bind, ok_nx, ok_rt, EV.R.of_some, rof_if, nxQ_nx, nxQ_rt, wp_noEx, g_0, g_s, s_0, s_s, s_t2, bb, zz, tru_bl, noEx_j, isi_list, isi_int, isi_bool, q_ll, q_llb, lenOk_of, b_add, b_sub, b_mul, b_div, b_mod, b_pow, mulOk_r, mulOk_l, divOk_of, c_lt, c_le, c_gt, c_ge, c_eq, c_ne, c_in, c_ni, dIn_dic, x_lst, x_scr, x_dic, l_lst, l_scr, l_abs, l_int, l_list, l_tup, l_sorted, l_sortedk, i_int, q_lst, q_lstp, q_b, q_bp, q_tup, q_tupp, a_app, t_0, t_s, rng_of, li_zz, li_bb, li_clean, li_z, pr_zz, pr_bb, pr_clean, pr_z, ll_zz, ll_bb, ll_cleanO, ll_cleanZ, ll_z, clean, isZ, isZs, cleans, zzs, bbs, Fl.bb, dIn_li, dEq_li, dEq_pr, dEq_ll, dEq_int, taint, taints, li_taint, pr_taint, ll_taint, Fl.tt, li_len, pr_len, ll_len, keyOf, List.map_cons, List.map_nil, List.length_cons, List.length_nil, List.set_cons_zero, List.set_cons_succ, Option.map_some]
            have et : ud (ud lab t.1 (low lab t)) t.2 (low lab t) = tieL P lab t := by unfold tieL; rw [if_pos ⟨h1, h2⟩]
            obtain ⟨a1, a2, a3⟩ := nxt _ et
            exact post_nx ⟨_, _, _, _, _, _, _, rfl, a1, a2, a3⟩
          · obtain ⟨a1, a2, a3⟩ := nxt _ (out fun z => h2 z.2)
            exact post_nx ⟨_, _, _, _, _, _, _, rfl, a1, a2, a3⟩
          · obtain ⟨a1, a2, a3⟩ := nxt _ (out fun z => h1 z.1)
            exact post_nx ⟨_, _, _, _, _, _, _, rfl, a1, a2, a3⟩
      · rintro e ⟨lab, v3, v4, v5, v6, v7, v8, rfl, L, M, N⟩
        rw [pr_len, List.take_length] at N
        simp [evSs, evS, evE, evEs, evP, evO, evTo, evT, evAnd, evOr, evTA, evTO, evIt, wp_bind, wp_nx, wp_if, wp_ok, wp_st, ok_bind, ok_nx, ok_rt, EV.R.of_some, rof_if, nxQ_nx, nxQ_rt, wp_noEx, g_0, g_s, s_0, s_s, s_t2, bb, zz, tru_bl, noEx_j, isi_list, isi_int, isi_bool, q_ll, q_llb, lenOk_of, b_add, b_sub, b_mul, b_div, b_mod, b_pow, mulOk_r, mulOk_l, divOk_of, c_lt, c_le, c_gt, c_ge, c_eq, c_ne, c_in, c_ni, dIn_dic, x_lst, x_scr, x_dic, l_lst, l_scr, l_abs, l_int, l_list, l_tup, l_sorted, l_sortedk, i_int, q_lst, q_lstp, q_b, q_bp, q_tup, q_tupp, a_app, a_put, t_0, t_s, rng_of, li_zz, li_bb, li_clean, li_z, pr_zz, pr_bb, pr_clean, pr_z, ll_zz, ll_bb, ll_cleanO, ll_cleanZ, ll_z, clean, isZ, isZs, cleans, zzs, bbs, Fl.bb, dIn_li, dEq_li, dEq_pr, dEq_ll, dEq_int, taint, taints, li_taint, pr_taint, ll_taint, Fl.tt, li_len, pr_len, ll_len, keyOf, List.map_cons, List.map_nil, List.length_cons, List.length_nil, List.set_cons_zero, List.set_cons_succ, Option.map_some]
        exact post_nx ⟨lab, _, _, _, _, _, _, rfl, L, round_ok L0 R0 M N⟩
    · rintro e ⟨lab, v3, v4, v5, v6, v7, v8, rfl, L, R⟩
      rw [range_len] at R
      have fin := lgr_grp hn hP L R
      simp [evSs, evS, evE.eq_1, evE.eq_2, evE.eq_3, evE.eq_4, evE.eq_5, evE.eq_6, evE.eq_7, evE.eq_8, evE.eq_9, evE.eq_10, evE.eq_11, evE.eq_12, evE.eq_13, evE.eq_14, evE.eq_15, evE.eq_16, evE.eq_17, evE.eq_18, evE.eq_19, evE.eq_20, evE.eq_21, evE.eq_22, evE.eq_23, evE.eq_24, evE.eq_27, evEs, evP, evO, evTo, evT, evAnd, evOr, evTA, evTO, evIt, wp_bind, wp_nx, wp_if, wp_ok, wp_st, ok_bind, ok_nx, ok_rt, EV.R.of_some, rof_if, nxQ_nx, nxQ_rt, wp_noEx, g_0, g_s, s_0, s_s, s_t2, bb, zz, tru_bl, noEx_j, isi_list, isi_int, isi_bool, q_ll, q_llb, lenOk_of, b_add, b_sub, b_mul, b_div, b_mod, b_pow, mulOk_r, mulOk_l, divOk_of, c_lt, c_le, c_gt, c_ge, c_eq, c_ne, c_in, c_ni, dIn_dic, x_lst, x_scr, x_dic, l_lst, l_scr, l_abs, l_int, l_list, l_tup, l_sorted, l_sortedk, i_int, q_lst, q_lstp, q_b, q_bp, q_tup, q_tupp, a_app, a_put, t_0, t_s, rng_of, li_zz, li_bb, li_clean, li_z, pr_zz, pr_bb, pr_clean, pr_z, ll_zz, ll_bb, ll_cleanO, ll_cleanZ, ll_z, clean, isZ, isZs, cleans, zzs, bbs, Fl.bb, dIn_li, dEq_li, dEq_pr, dEq_ll, dEq_int, taint, taints, li_taint, pr_taint, ll_taint, Fl.tt, li_len, pr_len, ll_len, keyOf, List.map_cons, List.map_nil, List.length_cons, List.length_nil, List.set_cons_zero, List.set_cons_succ, Option.map_some, lv_zz]
      refine wp_for (G4 P T lab) ⟨v3, v4, v5, v6, v7, rfl⟩ ?_ ?_
      · rintro i d e hi ⟨v3, v4, v5, v6, v7, rfl⟩
        rw [li_get] at hi
        cases hp : (sortI P)[i]? with
        | none => rw [hp] at hi; cases hi
        | some p =>
          rw [hp] at hi
          cases hi
          have hpP : p ∈ P := sortI_mem.mp (List.mem_of_getElem? hp)
          have hi2 : i < (sortI P).length := (List.getElem?_eq_some_iff.mp hp).1
          have hl : (lgr P lab ((sortI P).take i)).length < sizeLine := by
            have : (lgr P lab ((sortI P).take i)).length ≤ i := by
              unfold lgr
              rw [List.length_map]
              exact Nat.le_trans (List.length_filter_le ..) (by simp; omega)
            rw [sortI_len] at hi2
            show _ < 16777216; omega
          have sn := lgr_snoc (P := P) (lab := lab) (L := (sortI P).take i) (p := p)
          simp [evSs, evS, evE.eq_1, evE.eq_2, evE.eq_3, evE.eq_4, evE.eq_5, evE.eq_6, evE.eq_7, evE.eq_8, evE.eq_9, evE.eq_10, evE.eq_11, evE.eq_12, evE.eq_13, evE.eq_14, evE.eq_15, evE.eq_16, evE.eq_17, evE.eq_18, evE.eq_19, evE.eq_20, evE.eq_21, evE.eq_22, evE.eq_23, evE.eq_24, evE.eq_27, evEs, evP, evO, evTo, evT, evAnd, evOr, evTA, evTO, evIt, wp_bind, wp_nx, wp_if, wp_ok, wp_st, ok_bind, ok_nx, ok_rt, EV.R.of_some, rof_if, nxQ_nx, nxQ_rt, wp_noEx, g_0, g_s, s_0, s_s, s_t2, bb, zz, tru_bl, noEx_j, isi_list, isi_int, isi_bool, q_ll, q_llb, lenOk_of, b_add, b_sub, b_mul, b_div, b_mod, b_pow, mulOk_r, mulOk_l, divOk_of, c_lt, c_le, c_gt, c_ge, c_eq, c_ne, c_in, c_ni, dIn_dic, x_lst, x_scr, x_dic, l_lst, l_scr, l_abs, l_int, l_list, l_tup, l_sorted, l_sortedk, i_int, q_lst, q_lstp, q_b, q_bp, q_tup, q_tupp, a_app, a_put, t_0, t_s, rng_of, li_zz, li_bb, li_clean, li_z, pr_zz, pr_bb, pr_clean, pr_z, ll_zz, ll_bb, ll_cleanO, ll_cleanZ, ll_z, clean, isZ, isZs, cleans, zzs, bbs, Fl.bb, dIn_li, dEq_li, dEq_pr, dEq_ll, dEq_int, taint, taints, li_taint, pr_taint, ll_taint, Fl.tt, li_len, pr_len, ll_len, keyOf, List.map_cons, List.map_nil, List.length_cons, List.length_nil, List.set_cons_zero, List.set_cons_succ, Option.map_some, lv_bb, look_lv, hpP, dEq_int, comp_cls hP, hl]
          refine ⟨fun h => ?_, fun h => ?_⟩
          · rw [if_pos h] at sn
            exact post_nx ⟨_, _, _, _, _, by rw [take_succ' hp, sn, ll_app]⟩
          · rw [if_neg h] at sn
            exact post_nx ⟨_, _, _, _, _, by rw [take_succ' hp, sn]⟩
      · rintro e ⟨v3, v4, v5, v6, v7, rfl⟩
        rw [li_len, List.take_length, fin]
        simp [evSs, evS, evE, evEs, evP, evO, evTo, evT, evAnd, evOr, evTA, evTO, evIt, wp_bind, wp_nx, wp_if, wp_ok, wp_st, ok_bind, ok_nx, ok_rt, EV.R.of_some, rof_if, nxQ_nx, nxQ_rt, wp_noEx, g_0, g_s, s_0, s_s, s_t2, bb, zz, tru_bl, noEx_j, isi_list, isi_int, isi_bool, q_ll, q_llb, lenOk_of, b_add, b_sub, b_mul, b_div, b_mod, b_pow, mulOk_r, mulOk_l, divOk_of, c_lt, c_le, c_gt, c_ge, c_eq, c_ne, c_in, c_ni, dIn_dic, x_lst, x_scr, x_dic, l_lst, l_scr, l_abs, l_int, l_list, l_tup, l_sorted, l_sortedk, i_int, q_lst, q_lstp, q_b, q_bp, q_tup, q_tupp, a_app, a_put, t_0, t_s, rng_of, li_zz, li_bb, li_clean, li_z, pr_zz, pr_bb, pr_clean, pr_z, ll_zz, ll_bb, ll_cleanO, ll_cleanZ, ll_z, clean, isZ, isZs, cleans, zzs, bbs, Fl.bb, dIn_li, dEq_li, dEq_pr, dEq_ll, dEq_int, taint, taints, li_taint, pr_taint, ll_taint, Fl.tt, li_len, pr_len, ll_len, keyOf, List.map_cons, List.map_nil, List.length_cons, List.length_nil, List.set_cons_zero, List.set_cons_succ, Option.map_some]
theorem lawodd_ok {P : List Int} {T : List (Int × Int)} (hn : P.Nodup) (hP : P.length ≤ 14) (hT : T.length ≤ 14) :
    F12.sem [.lst .z (li P), .lst .z (pr T)] = .ok (.lst .o (ll .o (oddf (grp P T)))) := by
  have c2 : callD F11 [.lst .z (li P), .lst .z (pr T)] = .ok (.lst .o (ll .o (grp P T))) := by
    rw [callD_z rfl (by simp [isZs, isZ, li_z, pr_z])]
    exact groups_ok hn hP hT
  have e0 : evE T12 (.call 11 (.cons (.slot 0) (.cons (.slot 1) .nil))) [some (.lst .z (li P)), some (.lst .z (pr T)), none] = .ok (.lst .o (ll .o (grp P T))) := by
    simp [evSs, evS, evE, evEs, evP, evO, evTo, evT, evAnd, evOr, evTA, evTO, evIt, wp_bind, wp_nx, wp_if, wp_ok, wp_st, ok_bind, ok_nx, ok_rt, EV.R.of_some, rof_if, nxQ_nx, nxQ_rt, wp_noEx, g_0, g_s, s_0, s_s, s_t2, bb, zz, tru_bl, noEx_j, isi_list, isi_int, isi_bool, q_ll, q_llb, lenOk_of, b_add, b_sub, b_mul, b_div, b_mod, b_pow, mulOk_r, mulOk_l, divOk_of, c_lt, c_le, c_gt, c_ge, c_eq, c_ne, c_in, c_ni, dIn_dic, x_lst, x_scr, x_dic, l_lst, l_scr, l_abs, l_int, l_list, l_tup, l_sorted, l_sortedk, i_int, q_lst, q_lstp, q_b, q_bp, q_tup, q_tupp, a_app, a_put, t_0, t_s, rng_of, li_zz, li_bb, li_clean, li_z, pr_zz, pr_bb, pr_clean, pr_z, ll_zz, ll_bb, ll_cleanO, ll_cleanZ, ll_z, clean, isZ, isZs, cleans, zzs, bbs, Fl.bb, dIn_li, dEq_li, dEq_pr, dEq_ll, dEq_int, taint, taints, li_taint, pr_taint, ll_taint, Fl.tt, li_len, pr_len, ll_len, keyOf, List.map_cons, List.map_nil, List.length_cons, List.length_nil, List.set_cons_zero, List.set_cons_succ, Option.map_some, t12_11, c2]
  have e1 := flt_odd (i := 2) e0 (by simp) (Nat.le_trans (grp_len hn hP) (by decide))
  refine wp_eq ?_
  show Wp (noEx (runF T12 3 dr12.body _)) _
  rw [wp_noEx]
  unfold runF dr12
  show Wp (R.bind (evSs T12 _ [some (.lst .z (li P)), some (.lst .z (pr T)), none]) _) _
  rw [wp_bind, evSs, wp_nx, evS, e1]
  simp [evSs, evS, evE.eq_1, evE.eq_2, evE.eq_3, evE.eq_4, evE.eq_5, evE.eq_6, evE.eq_7, evE.eq_8, evE.eq_9, evE.eq_10, evE.eq_11, evE.eq_12, evE.eq_13, evE.eq_14, evE.eq_15, evE.eq_16, evE.eq_17, evE.eq_18, evE.eq_19, evE.eq_20, evE.eq_21, evE.eq_22, evE.eq_23, evE.eq_24, evE.eq_27, evEs, evP, evO, evTo, evT, evAnd, evOr, evTA, evTO, evIt, wp_bind, wp_nx, wp_if, wp_ok, wp_st, ok_bind, ok_nx, ok_rt, EV.R.of_some, rof_if, nxQ_nx, nxQ_rt, wp_noEx, g_0, g_s, s_0, s_s, s_t2, bb, zz, tru_bl, noEx_j, isi_list, isi_int, isi_bool, q_ll, q_llb, lenOk_of, b_add, b_sub, b_mul, b_div, b_mod, b_pow, mulOk_r, mulOk_l, divOk_of, c_lt, c_le, c_gt, c_ge, c_eq, c_ne, c_in, c_ni, dIn_dic, x_lst, x_scr, x_dic, l_lst, l_scr, l_abs, l_int, l_list, l_tup, l_sorted, l_sortedk, i_int, q_lst, q_lstp, q_b, q_bp, q_tup, q_tupp, a_app, a_put, t_0, t_s, rng_of, li_zz, li_bb, li_clean, li_z, pr_zz, pr_bb, pr_clean, pr_z, ll_zz, ll_bb, ll_cleanO, ll_cleanZ, ll_z, clean, isZ, isZs, cleans, zzs, bbs, Fl.bb, dIn_li, dEq_li, dEq_pr, dEq_ll, dEq_int, taint, taints, li_taint, pr_taint, ll_taint, Fl.tt, li_len, pr_len, ll_len, keyOf, List.map_cons, List.map_nil, List.length_cons, List.length_nil, List.set_cons_zero, List.set_cons_succ, Option.map_some]
end K36
namespace K36
open PySem L2 EV
theorem atI_nat {L : List Int} {i : Nat} {x : Int} (h : L[i]? = some x) : atI (li L) (i : Int) = some (.int x) := by
  have hi : i < L.length := (List.getElem?_eq_some_iff.mp h).1
  have hx : L[i] = x := (List.getElem?_eq_some_iff.mp h).2
  rw [atI_ok (by omega) (by rw [li_len]; omega)]
  simp [li, hx]
theorem atI_ll {f : Fl} {G : List (List Int)} {i : Nat} {g : List Int} (h : G[i]? = some g) : atI (ll f G) (i : Int) = some (.lst f (li g)) := by
  have hi : i < G.length := (List.getElem?_eq_some_iff.mp h).1
  have hx : G[i] = g := (List.getElem?_eq_some_iff.mp h).2
  rw [atI_ok (by omega) (by rw [ll_len]; omega)]
  simp [ll, hx]
def S14 (G : List (List Int)) (i : Nat) (e : EV.Env) : Prop := ∃ v2 v3 : Option D, e = [some (.lst .z (ll .z G)), some (.lst .z (ll .z G)), v2, v3]
theorem same_ok {G : List (List Int)} (hG : G.length ≤ 40) : F14.sem [.lst .z (ll .z G), .lst .z (ll .z G)] = .ok (.bl true) := by
  refine wp_eq ?_
  have rg : ∀ a v2 v3, evIt T14 (.r1 (.blt .len (.slot 1))) false [a, some (.lst .z (ll .z G)), v2, v3] = .ok (rangeD 0 G.length) := fun a v2 v3 => it_r1 (by simp [evSs, evS, evE, evEs, evP, evO, evTo, evT, evAnd, evOr, evTA, evTO, wp_bind, wp_nx, wp_if, wp_ok, wp_st, ok_bind, ok_nx, ok_rt, EV.R.of_some, rof_if, nxQ_nx, nxQ_rt, wp_noEx, g_0, g_s, s_0, s_s, s_t2, bb, zz, tru_bl, noEx_j, isi_list, isi_int, isi_bool, q_ll, q_llb, lenOk_of, b_add, b_sub, b_mul, b_div, b_mod, b_pow, mulOk_r, mulOk_l, divOk_of, c_lt, c_le, c_gt, c_ge, c_eq, c_ne, c_in, c_ni, dIn_dic, x_lst, x_scr, x_dic, l_lst, l_scr, l_abs, l_int, l_list, l_tup, l_sorted, l_sortedk, i_int, q_lst, q_lstp, q_b, q_bp, q_tup, q_tupp, a_app, a_put, t_0, t_s, rng_of, li_zz, li_bb, li_clean, li_z, pr_zz, pr_bb, pr_clean, pr_z, ll_zz, ll_bb, ll_cleanO, ll_cleanZ, ll_z, clean, isZ, isZs, cleans, zzs, bbs, Fl.bb, dIn_li, dEq_li, dEq_pr, dEq_ll, dEq_int, taint, taints, li_taint, pr_taint, ll_taint, Fl.tt, li_len, pr_len, ll_len, keyOf, List.map_cons, List.map_nil, List.length_cons, List.length_nil, List.set_cons_zero, List.set_cons_succ, Option.map_some]) (by omega)
  simp [F14, runF, dr14, evSs, evS, evE, evEs, evP, evO, evTo, evT, evAnd, evOr, evTA, evTO, wp_bind, wp_nx, wp_if, wp_ok, wp_st, ok_bind, ok_nx, ok_rt, EV.R.of_some, rof_if, nxQ_nx, nxQ_rt, wp_noEx, g_0, g_s, s_0, s_s, s_t2, bb, zz, tru_bl, noEx_j, isi_list, isi_int, isi_bool, q_ll, q_llb, lenOk_of, b_add, b_sub, b_mul, b_div, b_mod, b_pow, mulOk_r, mulOk_l, divOk_of, c_lt, c_le, c_gt, c_ge, c_eq, c_ne, c_in, c_ni, dIn_dic, x_lst, x_scr, x_dic, l_lst, l_scr, l_abs, l_int, l_list, l_tup, l_sorted, l_sortedk, i_int, q_lst, q_lstp, q_b, q_bp, q_tup, q_tupp, a_app, a_put, t_0, t_s, rng_of, li_zz, li_bb, li_clean, li_z, pr_zz, pr_bb, pr_clean, pr_z, ll_zz, ll_bb, ll_cleanO, ll_cleanZ, ll_z, clean, isZ, isZs, cleans, zzs, bbs, Fl.bb, dIn_li, dEq_li, dEq_pr, dEq_ll, dEq_int, taint, taints, li_taint, pr_taint, ll_taint, Fl.tt, li_len, pr_len, ll_len, keyOf, List.map_cons, List.map_nil, List.length_cons, List.length_nil, List.set_cons_zero, List.set_cons_succ, Option.map_some, evIt.eq_3, rg]
  refine wp_for (S14 G) ⟨none, none, rfl⟩ ?_ ?_
  · rintro i d e hi ⟨v2, v3, rfl⟩
    obtain ⟨rfl, hi2⟩ := range_get hi
    obtain ⟨g, hg⟩ : ∃ g, G[i]? = some g := ⟨_, List.getElem?_eq_getElem hi2⟩
    have e1 := atI_ll (f := .z) hg
    simp [evSs, evS, evE, evEs, evP, evO, evTo, evT, evAnd, evOr, evTA, evTO, evIt, wp_bind, wp_nx, wp_if, wp_ok, wp_st, ok_bind, ok_nx, ok_rt, EV.R.of_some, rof_if, nxQ_nx, nxQ_rt, wp_noEx, g_0, g_s, s_0, s_s, s_t2, bb, zz, tru_bl, noEx_j, isi_list, isi_int, isi_bool, q_ll, q_llb, lenOk_of, b_add, b_sub, b_mul, b_div, b_mod, b_pow, mulOk_r, mulOk_l, divOk_of, c_lt, c_le, c_gt, c_ge, c_eq, c_ne, c_in, c_ni, dIn_dic, x_lst, x_scr, x_dic, l_lst, l_scr, l_abs, l_int, l_list, l_tup, l_sorted, l_sortedk, i_int, q_lst, q_lstp, q_b, q_bp, q_tup, q_tupp, a_app, a_put, t_0, t_s, rng_of, li_zz, li_bb, li_clean, li_z, pr_zz, pr_bb, pr_clean, pr_z, ll_zz, ll_bb, ll_cleanO, ll_cleanZ, ll_z, clean, isZ, isZs, cleans, zzs, bbs, Fl.bb, dIn_li, dEq_li, dEq_pr, dEq_ll, dEq_int, taint, taints, li_taint, pr_taint, ll_taint, Fl.tt, li_len, pr_len, ll_len, keyOf, List.map_cons, List.map_nil, List.length_cons, List.length_nil, List.set_cons_zero, List.set_cons_succ, Option.map_some, e1]
    refine wp_for (S14 G) ⟨_, _, rfl⟩ ?_ ?_
    · rintro j d e hj ⟨v2, v3, rfl⟩
      rw [li_get] at hj
      cases hx : g[j]? with
      | none => rw [hx] at hj; cases hj
      | some x =>
        rw [hx] at hj
        cases hj
        simp [evSs, evS, evE, evEs, evP, evO, evTo, evT, evAnd, evOr, evTA, evTO, evIt, wp_bind, wp_nx, wp_if, wp_ok, wp_st, ok_bind, ok_nx, ok_rt, EV.R.of_some, rof_if, nxQ_nx, nxQ_rt, wp_noEx, g_0, g_s, s_0, s_s, s_t2, bb, zz, tru_bl, noEx_j, isi_list, isi_int, isi_bool, q_ll, q_llb, lenOk_of, b_add, b_sub, b_mul, b_div, b_mod, b_pow, mulOk_r, mulOk_l, divOk_of, c_lt, c_le, c_gt, c_ge, c_eq, c_ne, c_in, c_ni, dIn_dic, x_lst, x_scr, x_dic, l_lst, l_scr, l_abs, l_int, l_list, l_tup, l_sorted, l_sortedk, i_int, q_lst, q_lstp, q_b, q_bp, q_tup, q_tupp, a_app, a_put, t_0, t_s, rng_of, li_zz, li_bb, li_clean, li_z, pr_zz, pr_bb, pr_clean, pr_z, ll_zz, ll_bb, ll_cleanO, ll_cleanZ, ll_z, clean, isZ, isZs, cleans, zzs, bbs, Fl.bb, dIn_li, dEq_li, dEq_pr, dEq_ll, dEq_int, taint, taints, li_taint, pr_taint, ll_taint, Fl.tt, li_len, pr_len, ll_len, keyOf, List.map_cons, List.map_nil, List.length_cons, List.length_nil, List.set_cons_zero, List.set_cons_succ, Option.map_some]
        exact post_nx ⟨_, _, rfl⟩
    · rintro e ⟨v2, v3, rfl⟩
      simp [evSs, evS, evE, evEs, evP, evO, evTo, evT, evAnd, evOr, evTA, evTO, evIt, wp_bind, wp_nx, wp_if, wp_ok, wp_st, ok_bind, ok_nx, ok_rt, EV.R.of_some, rof_if, nxQ_nx, nxQ_rt, wp_noEx, g_0, g_s, s_0, s_s, s_t2, bb, zz, tru_bl, noEx_j, isi_list, isi_int, isi_bool, q_ll, q_llb, lenOk_of, b_add, b_sub, b_mul, b_div, b_mod, b_pow, mulOk_r, mulOk_l, divOk_of, c_lt, c_le, c_gt, c_ge, c_eq, c_ne, c_in, c_ni, dIn_dic, x_lst, x_scr, x_dic, l_lst, l_scr, l_abs, l_int, l_list, l_tup, l_sorted, l_sortedk, i_int, q_lst, q_lstp, q_b, q_bp, q_tup, q_tupp, a_app, a_put, t_0, t_s, rng_of, li_zz, li_bb, li_clean, li_z, pr_zz, pr_bb, pr_clean, pr_z, ll_zz, ll_bb, ll_cleanO, ll_cleanZ, ll_z, clean, isZ, isZs, cleans, zzs, bbs, Fl.bb, dIn_li, dEq_li, dEq_pr, dEq_ll, dEq_int, taint, taints, li_taint, pr_taint, ll_taint, Fl.tt, li_len, pr_len, ll_len, keyOf, List.map_cons, List.map_nil, List.length_cons, List.length_nil, List.set_cons_zero, List.set_cons_succ, Option.map_some]
      exact post_nx ⟨_, _, rfl⟩
  · rintro e ⟨v2, v3, rfl⟩
    simp [evSs, evS, evE, evEs, evP, evO, evTo, evT, evAnd, evOr, evTA, evTO, evIt, wp_bind, wp_nx, wp_if, wp_ok, wp_st, ok_bind, ok_nx, ok_rt, EV.R.of_some, rof_if, nxQ_nx, nxQ_rt, wp_noEx, g_0, g_s, s_0, s_s, s_t2, bb, zz, tru_bl, noEx_j, isi_list, isi_int, isi_bool, q_ll, q_llb, lenOk_of, b_add, b_sub, b_mul, b_div, b_mod, b_pow, mulOk_r, mulOk_l, divOk_of, c_lt, c_le, c_gt, c_ge, c_eq, c_ne, c_in, c_ni, dIn_dic, x_lst, x_scr, x_dic, l_lst, l_scr, l_abs, l_int, l_list, l_tup, l_sorted, l_sortedk, i_int, q_lst, q_lstp, q_b, q_bp, q_tup, q_tupp, a_app, a_put, t_0, t_s, rng_of, li_zz, li_bb, li_clean, li_z, pr_zz, pr_bb, pr_clean, pr_z, ll_zz, ll_bb, ll_cleanO, ll_cleanZ, ll_z, clean, isZ, isZs, cleans, zzs, bbs, Fl.bb, dIn_li, dEq_li, dEq_pr, dEq_ll, dEq_int, taint, taints, li_taint, pr_taint, ll_taint, Fl.tt, li_len, pr_len, ll_len, keyOf, List.map_cons, List.map_nil, List.length_cons, List.length_nil, List.set_cons_zero, List.set_cons_succ, Option.map_some]
theorem li_erase : ∀ (Q : List Int) (m : Nat), (li Q).eraseIdx m = li (Q.eraseIdx m)
  | [], m => rfl
  | x :: Q, 0 => rfl
  | x :: Q, m + 1 => by
    show D.int x :: (li Q).eraseIdx m = D.int x :: li (Q.eraseIdx m)
    rw [li_erase Q m]
theorem erase_perm : ∀ (Q : List Int) (m : Nat) (h : m < Q.length), (Q[m] :: Q.eraseIdx m).Perm Q
  | [], m, h => by simp at h
  | x :: Q, 0, h => by simp
  | x :: Q, m + 1, h => by
    have ih := erase_perm Q m (by simpa using h)
    show (Q[m]'(by simpa using h) :: x :: Q.eraseIdx m).Perm (x :: Q)
    exact (List.Perm.swap x _ _).trans (ih.cons x)
theorem pop_li {Q : List Int} {r : Int} (h0 : 0 ≤ r) (h1 : r < Q.length) (hQ : Q.length ≤ 40) : popO (.lst .o (li Q)) r = some (.int (Q[r.toNat]'(by omega)), .lst .o (li (Q.eraseIdx r.toNat))) := by
  unfold popO
  have e1 : ixN (li Q).length r = some r.toNat := by
    unfold ixN
    rw [li_len, if_pos h0, if_pos h1]
  have e2 : (li Q)[r.toNat]? = some (.int (Q[r.toNat]'(by omega))) := by
    rw [li_get, List.getElem?_eq_getElem (by omega)]; rfl
  simp only [e1, Option.bind_some, e2]
  rw [rng_of (i := r) (by omega) (by omega)]
  simp only [isZ, Bool.and_self, if_true]
  rw [li_erase]
def I13 (L P : List Int) (i : Nat) (e : EV.Env) : Prop := ∃ (Q R : List Int) (v : Option D), e = [some (.lst .z (li L)), some (.lst .z (li P)), some (.lst .o (li Q)), some (.lst .o (li R)), v] ∧ (Q ++ R).Perm P ∧ R.length = i
theorem removed_ok (L : List Int) {P : List Int} (hP : P.length ≤ 14) : Wp (F13.sem [.lst .z (li L), .lst .z (li P)]) fun d => ∃ Q R : List Int, d = .lst .o (li R) ∧ (Q ++ R).Perm P := by
  obtain ⟨_, h0, h1⟩ := pick_all L 0 (P.length + 1)
  simp [F13, runF, dr13, evSs, evS, evE, evEs, evP, evO, evTo, evT, evAnd, evOr, evTA, evTO, evIt, wp_bind, wp_nx, wp_if, wp_ok, wp_st, ok_bind, ok_nx, ok_rt, EV.R.of_some, rof_if, nxQ_nx, nxQ_rt, wp_noEx, g_0, g_s, s_0, s_s, s_t2, bb, zz, tru_bl, noEx_j, isi_list, isi_int, isi_bool, q_ll, q_llb, lenOk_of, b_add, b_sub, b_mul, b_div, b_mod, b_pow, mulOk_r, mulOk_l, divOk_of, c_lt, c_le, c_gt, c_ge, c_eq, c_ne, c_in, c_ni, dIn_dic, x_lst, x_scr, x_dic, l_lst, l_scr, l_abs, l_int, l_list, l_tup, l_sorted, l_sortedk, i_int, q_lst, q_lstp, q_b, q_bp, q_tup, q_tupp, a_app, a_put, t_0, t_s, rng_of, li_zz, li_bb, li_clean, li_z, pr_zz, pr_bb, pr_clean, pr_z, ll_zz, ll_bb, ll_cleanO, ll_cleanZ, ll_z, clean, isZ, isZs, cleans, zzs, bbs, Fl.bb, dIn_li, dEq_li, dEq_pr, dEq_ll, dEq_int, taint, taints, li_taint, pr_taint, ll_taint, Fl.tt, li_len, pr_len, ll_len, keyOf, List.map_cons, List.map_nil, List.length_cons, List.length_nil, List.set_cons_zero, List.set_cons_succ, Option.map_some, t13_8, pick_call]
  refine ⟨fun _ => ?_, rng_of (by omega) (by omega)⟩
  refine wp_for (I13 L P) ⟨P, [], _, rfl, by simp, rfl⟩ ?_ ?_
  · rintro i d e hi ⟨Q, R, v, rfl, hp, hl⟩
    obtain ⟨rfl, hi2⟩ := range_get hi
    have hlen := hp.length_eq
    rw [List.length_append] at hlen
    obtain ⟨_, k0, k1⟩ := pick_all L (1 + (i : Int)) Q.length
    have hq : pk L (1 + (i : Int)) Q.length < Q.length := by omega
    have hs : R.length < sizeLine := by show _ < 16777216; omega
    simp [evSs, evS, evE, evEs, evP, evO, evTo, evT, evAnd, evOr, evTA, evTO, evIt, wp_bind, wp_nx, wp_if, wp_ok, wp_st, ok_bind, ok_nx, ok_rt, EV.R.of_some, rof_if, nxQ_nx, nxQ_rt, wp_noEx, g_0, g_s, s_0, s_s, s_t2, bb, zz, tru_bl, noEx_j, isi_list, isi_int, isi_bool, q_ll, q_llb, lenOk_of, b_add, b_sub, b_mul, b_div, b_mod, b_pow, mulOk_r, mulOk_l, divOk_of, c_lt, c_le, c_gt, c_ge, c_eq, c_ne, c_in, c_ni, dIn_dic, x_lst, x_scr, x_dic, l_lst, l_scr, l_abs, l_int, l_list, l_tup, l_sorted, l_sortedk, i_int, q_lst, q_lstp, q_b, q_bp, q_tup, q_tupp, a_app, a_put, t_0, t_s, rng_of, li_zz, li_bb, li_clean, li_z, pr_zz, pr_bb, pr_clean, pr_z, ll_zz, ll_bb, ll_cleanO, ll_cleanZ, ll_z, clean, isZ, isZs, cleans, zzs, bbs, Fl.bb, dIn_li, dEq_li, dEq_pr, dEq_ll, dEq_int, taint, taints, li_taint, pr_taint, ll_taint, Fl.tt, li_len, pr_len, ll_len, keyOf, List.map_cons, List.map_nil, List.length_cons, List.length_nil, List.set_cons_zero, List.set_cons_succ, Option.map_some, t13_8, pick_call, pop_li k0 hq (by omega), hs]
    refine post_nx ⟨_, _, _, by rw [li_app], ?_, by simp [hl]⟩
    have pm := erase_perm Q (pk L (1 + (i : Int)) Q.length).toNat (by omega)
    refine List.Perm.trans ?_ hp
    rw [← List.append_assoc]
    refine List.Perm.trans (List.perm_append_comm) ?_
    refine List.Perm.trans ?_ (pm.append_right R)
    simp
  · rintro e ⟨Q, R, v, rfl, hp, hl⟩
    simp [evSs, evS, evE, evEs, evP, evO, evTo, evT, evAnd, evOr, evTA, evTO, evIt, wp_bind, wp_nx, wp_if, wp_ok, wp_st, ok_bind, ok_nx, ok_rt, EV.R.of_some, rof_if, nxQ_nx, nxQ_rt, wp_noEx, g_0, g_s, s_0, s_s, s_t2, bb, zz, tru_bl, noEx_j, isi_list, isi_int, isi_bool, q_ll, q_llb, lenOk_of, b_add, b_sub, b_mul, b_div, b_mod, b_pow, mulOk_r, mulOk_l, divOk_of, c_lt, c_le, c_gt, c_ge, c_eq, c_ne, c_in, c_ni, dIn_dic, x_lst, x_scr, x_dic, l_lst, l_scr, l_abs, l_int, l_list, l_tup, l_sorted, l_sortedk, i_int, q_lst, q_lstp, q_b, q_bp, q_tup, q_tupp, a_app, a_put, t_0, t_s, rng_of, li_zz, li_bb, li_clean, li_z, pr_zz, pr_bb, pr_clean, pr_z, ll_zz, ll_bb, ll_cleanO, ll_cleanZ, ll_z, clean, isZ, isZs, cleans, zzs, bbs, Fl.bb, dIn_li, dEq_li, dEq_pr, dEq_ll, dEq_int, taint, taints, li_taint, pr_taint, ll_taint, Fl.tt, li_len, pr_len, ll_len, keyOf, List.map_cons, List.map_nil, List.length_cons, List.length_nil, List.set_cons_zero, List.set_cons_succ, Option.map_some]
    exact ⟨Q, R, rfl, hp⟩
theorem step {Φ : Nat → FD} {s : S} {ss : Ss} {env env' : EV.Env} {Q : Out → Prop} (h : evS Φ s env = .ok (.nx env')) (k : Wp (evSs Φ ss env') Q) : Wp (evSs Φ (.cons s ss) env) Q := by
  rw [evSs, h, ok_nx]; exact k
theorem isi_boolb {b : Bool} : dIsi "bool" (.bl b) = some (.bl true) := by
  show (kitB "bool" "bool").map _ = _
  rw [show kitB "bool" "bool" = some true by decide +kernel]; rfl
theorem dEq_bl {b : Bool} : dEq (.bl b) (.bl b) = some true := by
  have sh : SeqAt.shaped (.bool b) = true := by simp [SeqAt.shaped, PyData.canLay0, PyData.depth]
  simp only [dEq, toP, sh, Bool.and_self, if_true, self_eq sh]
theorem barsl_ok {P X : List Int} {T : List (Int × Int)} (hn : P.Nodup) (hP : P.length ≤ 14) (hT : T.length ≤ 14) (hX : X.Nodup) (hXl : X.length ≤ 14) :
    F15.sem [.lst .z (li P), .lst .z (pr T), .lst .z (li X)] = .ok (.bl true) := by
  have h1 : (wo P X).Nodup := hn.filter _
  have h2 : (wo P X).length ≤ 14 := Nat.le_trans (List.length_filter_le ..) hP
  have k2 : evE T15 (.comp (.seq (.slot 0)) (.name 9) [9] (.some (.b (.cmp .notin (.slot 9) (.slot 2)))) (.slot 9)) [some (.lst .z (li P)), some (.lst .z (pr T)), some (.lst .z (li X)), none, none, none, none, none, none, none] = .ok (.lst .o (li (wo P X))) := by
    have key := compL_eq (turn := fun d => noEx ((setTg (.name 9) d (wipeE [some (.lst .z (li P)), some (.lst .z (pr T)), some (.lst .z (li X)), none, none, none, none, none, none, none] [9])).bind fun env' => (evTo T15 (.some (.b (.cmp .notin (.slot 9) (.slot 2)))) env').bind fun b => if b then (evE T15 (.slot 9) env').bind fun x => .ok (some x) else .ok none))
      (f := D.int) (g := fun p => if p ∈ X then none else some (.int p)) P []
      (fun p _ => by
        by_cases h : p ∈ X <;> simp [wipeE, h, evSs, evS, evE, evEs, evP, evO, evTo, evT, evAnd, evOr, evTA, evTO, evIt, wp_bind, wp_nx, wp_if, wp_ok, wp_st, ok_bind, ok_nx, ok_rt, EV.R.of_some, rof_if, nxQ_nx, nxQ_rt, wp_noEx, g_0, g_s, s_0, s_s, s_t2, bb, zz, tru_bl, noEx_j, isi_list, isi_int, isi_bool, q_ll, q_llb, lenOk_of, b_add, b_sub, b_mul, b_div, b_mod, b_pow, mulOk_r, mulOk_l, divOk_of, c_lt, c_le, c_gt, c_ge, c_eq, c_ne, c_in, c_ni, dIn_dic, x_lst, x_scr, x_dic, l_lst, l_scr, l_abs, l_int, l_list, l_tup, l_sorted, l_sortedk, i_int, q_lst, q_lstp, q_b, q_bp, q_tup, q_tupp, a_app, a_put, t_0, t_s, rng_of, li_zz, li_bb, li_clean, li_z, pr_zz, pr_bb, pr_clean, pr_z, ll_zz, ll_bb, ll_cleanO, ll_cleanZ, ll_z, clean, isZ, isZs, cleans, zzs, bbs, Fl.bb, dIn_li, dEq_li, dEq_pr, dEq_ll, dEq_int, taint, taints, li_taint, pr_taint, ll_taint, Fl.tt, li_len, pr_len, ll_len, keyOf, List.map_cons, List.map_nil, List.length_cons, List.length_nil, List.set_cons_zero, List.set_cons_succ, Option.map_some])
      (fun p _ d e => by
        by_cases h : p ∈ X
        · rw [if_pos h] at e; cases e
        · rw [if_neg h] at e; cases e; rfl)
      (by show _ ≤ 16777216; simp; omega)
    rw [evE]
    have e1 : evIt T15 (.seq (.slot 0)) true [some (.lst .z (li P)), some (.lst .z (pr T)), some (.lst .z (li X)), none, none, none, none, none, none, none] = .ok (li P) := by simp [evSs, evS, evE, evEs, evP, evO, evTo, evT, evAnd, evOr, evTA, evTO, evIt, wp_bind, wp_nx, wp_if, wp_ok, wp_st, ok_bind, ok_nx, ok_rt, EV.R.of_some, rof_if, nxQ_nx, nxQ_rt, wp_noEx, g_0, g_s, s_0, s_s, s_t2, bb, zz, tru_bl, noEx_j, isi_list, isi_int, isi_bool, q_ll, q_llb, lenOk_of, b_add, b_sub, b_mul, b_div, b_mod, b_pow, mulOk_r, mulOk_l, divOk_of, c_lt, c_le, c_gt, c_ge, c_eq, c_ne, c_in, c_ni, dIn_dic, x_lst, x_scr, x_dic, l_lst, l_scr, l_abs, l_int, l_list, l_tup, l_sorted, l_sortedk, i_int, q_lst, q_lstp, q_b, q_bp, q_tup, q_tupp, a_app, a_put, t_0, t_s, rng_of, li_zz, li_bb, li_clean, li_z, pr_zz, pr_bb, pr_clean, pr_z, ll_zz, ll_bb, ll_cleanO, ll_cleanZ, ll_z, clean, isZ, isZs, cleans, zzs, bbs, Fl.bb, dIn_li, dEq_li, dEq_pr, dEq_ll, dEq_int, taint, taints, li_taint, pr_taint, ll_taint, Fl.tt, li_len, pr_len, ll_len, keyOf, List.map_cons, List.map_nil, List.length_cons, List.length_nil, List.set_cons_zero, List.set_cons_succ, Option.map_some]
    rw [e1, ok_bind]
    have : (!Tg.within (.name 9) [9]) = false := rfl
    rw [this, if_neg (by simp)]
    show R.bind (compL _ (P.map D.int) []) _ = _
    rw [key, ok_bind, List.nil_append, wo_fm]
  have k3 : callD F12 [.lst .z (li (wo P X)), .lst .z (pr T)] = .ok (.lst .o (ll .o (oddf (grp (wo P X) T)))) := by
    rw [callD_z rfl (by simp [isZs, isZ, li_z, pr_z]), lawodd_ok h1 h2 hT]
  have k4 : callD F5 [.lst .z (li P), .lst .z (pr T), .lst .z (li X)] = .ok (.bl (decide (X.length < (oddf (grp (wo P X) T)).length))) := by
    rw [callD_z rfl (by simp [isZs, isZ, li_z, pr_z]), bars_ok hn hP hT hX hXl]
  generalize oddf (grp (wo P X) T) = G at k3 k4
  have e5 : decide ((X.length : Int) < (G.length : Int)) = decide (X.length < G.length) := by
    rw [decide_eq_decide]; omega
  have hd : ∀ b : Bool, dEq (.bl b) (.bl b) = some true := fun b => dEq_bl
  refine wp_eq ?_
  show Wp (noEx (runF T15 10 dr15.body _)) _
  rw [wp_noEx]
  unfold runF dr15
  show Wp (R.bind (evSs T15 _ [some (.lst .z (li P)), some (.lst .z (pr T)), some (.lst .z (li X)), none, none, none, none, none, none, none]) _) _
  rw [wp_bind]
  refine step (env' := [some (.lst .z (li P)), some (.lst .z (pr T)), some (.lst .z (li X)), some (.lst .o (li (wo P X))), none, none, none, none, none, none]) (by rw [evS, k2]; simp [ok_bind, clean, li_clean]) ?_
  refine step (env' := [some (.lst .z (li P)), some (.lst .z (pr T)), some (.lst .z (li X)), some (.lst .z (li (wo P X))), none, none, none, none, none, none]) (by simp [evSs, evS, evE.eq_1, evE.eq_2, evE.eq_3, evE.eq_4, evE.eq_5, evE.eq_6, evE.eq_7, evE.eq_8, evE.eq_9, evE.eq_10, evE.eq_11, evE.eq_12, evE.eq_13, evE.eq_14, evE.eq_15, evE.eq_16, evE.eq_17, evE.eq_18, evE.eq_19, evE.eq_20, evE.eq_21, evE.eq_22, evE.eq_23, evE.eq_24, evE.eq_27, evEs, evP, evO, evTo, evT, evAnd, evOr, evTA, evTO, evIt, wp_bind, wp_nx, wp_if, wp_ok, wp_st, ok_bind, ok_nx, ok_rt, EV.R.of_some, rof_if, nxQ_nx, nxQ_rt, wp_noEx, g_0, g_s, s_0, s_s, s_t2, bb, zz, tru_bl, noEx_j, isi_list, isi_int, isi_bool, q_ll, q_llb, lenOk_of, b_add, b_sub, b_mul, b_div, b_mod, b_pow, mulOk_r, mulOk_l, divOk_of, c_lt, c_le, c_gt, c_ge, c_eq, c_ne, c_in, c_ni, dIn_dic, x_lst, x_scr, x_dic, l_lst, l_scr, l_abs, l_int, l_list, l_tup, l_sorted, l_sortedk, i_int, q_lst, q_lstp, q_b, q_bp, q_tup, q_tupp, a_app, a_put, t_0, t_s, rng_of, li_zz, li_bb, li_clean, li_z, pr_zz, pr_bb, pr_clean, pr_z, ll_zz, ll_bb, ll_cleanO, ll_cleanZ, ll_z, clean, isZ, isZs, cleans, zzs, bbs, Fl.bb, dIn_li, dEq_li, dEq_pr, dEq_ll, dEq_int, taint, taints, li_taint, pr_taint, ll_taint, Fl.tt, li_len, pr_len, ll_len, keyOf, List.map_cons, List.map_nil, List.length_cons, List.length_nil, List.set_cons_zero, List.set_cons_succ, Option.map_some]) ?_
  refine step (env' := [some (.lst .z (li P)), some (.lst .z (pr T)), some (.lst .z (li X)), some (.lst .z (li (wo P X))), some (.bl (decide (X.length < G.length))), none, none, none, none, none]) (by simp [evSs, evS, evE.eq_1, evE.eq_2, evE.eq_3, evE.eq_4, evE.eq_5, evE.eq_6, evE.eq_7, evE.eq_8, evE.eq_9, evE.eq_10, evE.eq_11, evE.eq_12, evE.eq_13, evE.eq_14, evE.eq_15, evE.eq_16, evE.eq_17, evE.eq_18, evE.eq_19, evE.eq_20, evE.eq_21, evE.eq_22, evE.eq_23, evE.eq_24, evE.eq_27, evEs, evP, evO, evTo, evT, evAnd, evOr, evTA, evTO, evIt, wp_bind, wp_nx, wp_if, wp_ok, wp_st, ok_bind, ok_nx, ok_rt, EV.R.of_some, rof_if, nxQ_nx, nxQ_rt, wp_noEx, g_0, g_s, s_0, s_s, s_t2, bb, zz, tru_bl, noEx_j, isi_list, isi_int, isi_bool, q_ll, q_llb, lenOk_of, b_add, b_sub, b_mul, b_div, b_mod, b_pow, mulOk_r, mulOk_l, divOk_of, c_lt, c_le, c_gt, c_ge, c_eq, c_ne, c_in, c_ni, dIn_dic, x_lst, x_scr, x_dic, l_lst, l_scr, l_abs, l_int, l_list, l_tup, l_sorted, l_sortedk, i_int, q_lst, q_lstp, q_b, q_bp, q_tup, q_tupp, a_app, a_put, t_0, t_s, rng_of, li_zz, li_bb, li_clean, li_z, pr_zz, pr_bb, pr_clean, pr_z, ll_zz, ll_bb, ll_cleanO, ll_cleanZ, ll_z, clean, isZ, isZs, cleans, zzs, bbs, Fl.bb, dIn_li, dEq_li, dEq_pr, dEq_ll, dEq_int, taint, taints, li_taint, pr_taint, ll_taint, Fl.tt, li_len, pr_len, ll_len, keyOf, List.map_cons, List.map_nil, List.length_cons, List.length_nil, List.set_cons_zero, List.set_cons_succ, Option.map_some, t15_12, k3]) ?_
  refine step (env' := [some (.lst .z (li P)), some (.lst .z (pr T)), some (.lst .z (li X)), some (.lst .z (li (wo P X))), some (.bl (decide (X.length < G.length))), some (.lst .o (li P)), none, none, none, none]) (by simp [evSs, evS, evE.eq_1, evE.eq_2, evE.eq_3, evE.eq_4, evE.eq_5, evE.eq_6, evE.eq_7, evE.eq_8, evE.eq_9, evE.eq_10, evE.eq_11, evE.eq_12, evE.eq_13, evE.eq_14, evE.eq_15, evE.eq_16, evE.eq_17, evE.eq_18, evE.eq_19, evE.eq_20, evE.eq_21, evE.eq_22, evE.eq_23, evE.eq_24, evE.eq_27, evEs, evP, evO, evTo, evT, evAnd, evOr, evTA, evTO, evIt, wp_bind, wp_nx, wp_if, wp_ok, wp_st, ok_bind, ok_nx, ok_rt, EV.R.of_some, rof_if, nxQ_nx, nxQ_rt, wp_noEx, g_0, g_s, s_0, s_s, s_t2, bb, zz, tru_bl, noEx_j, isi_list, isi_int, isi_bool, q_ll, q_llb, lenOk_of, b_add, b_sub, b_mul, b_div, b_mod, b_pow, mulOk_r, mulOk_l, divOk_of, c_lt, c_le, c_gt, c_ge, c_eq, c_ne, c_in, c_ni, dIn_dic, x_lst, x_scr, x_dic, l_lst, l_scr, l_abs, l_int, l_list, l_tup, l_sorted, l_sortedk, i_int, q_lst, q_lstp, q_b, q_bp, q_tup, q_tupp, a_app, a_put, t_0, t_s, rng_of, li_zz, li_bb, li_clean, li_z, pr_zz, pr_bb, pr_clean, pr_z, ll_zz, ll_bb, ll_cleanO, ll_cleanZ, ll_z, clean, isZ, isZs, cleans, zzs, bbs, Fl.bb, dIn_li, dEq_li, dEq_pr, dEq_ll, dEq_int, taint, taints, li_taint, pr_taint, ll_taint, Fl.tt, li_len, pr_len, ll_len, keyOf, List.map_cons, List.map_nil, List.length_cons, List.length_nil, List.set_cons_zero, List.set_cons_succ, Option.map_some]) ?_
  refine step (env' := [some (.lst .z (li P)), some (.lst .z (pr T)), some (.lst .z (li X)), some (.lst .z (li (wo P X))), some (.bl (decide (X.length < G.length))), some (.lst .z (li P)), none, none, none, none]) (by simp [evSs, evS, evE.eq_1, evE.eq_2, evE.eq_3, evE.eq_4, evE.eq_5, evE.eq_6, evE.eq_7, evE.eq_8, evE.eq_9, evE.eq_10, evE.eq_11, evE.eq_12, evE.eq_13, evE.eq_14, evE.eq_15, evE.eq_16, evE.eq_17, evE.eq_18, evE.eq_19, evE.eq_20, evE.eq_21, evE.eq_22, evE.eq_23, evE.eq_24, evE.eq_27, evEs, evP, evO, evTo, evT, evAnd, evOr, evTA, evTO, evIt, wp_bind, wp_nx, wp_if, wp_ok, wp_st, ok_bind, ok_nx, ok_rt, EV.R.of_some, rof_if, nxQ_nx, nxQ_rt, wp_noEx, g_0, g_s, s_0, s_s, s_t2, bb, zz, tru_bl, noEx_j, isi_list, isi_int, isi_bool, q_ll, q_llb, lenOk_of, b_add, b_sub, b_mul, b_div, b_mod, b_pow, mulOk_r, mulOk_l, divOk_of, c_lt, c_le, c_gt, c_ge, c_eq, c_ne, c_in, c_ni, dIn_dic, x_lst, x_scr, x_dic, l_lst, l_scr, l_abs, l_int, l_list, l_tup, l_sorted, l_sortedk, i_int, q_lst, q_lstp, q_b, q_bp, q_tup, q_tupp, a_app, a_put, t_0, t_s, rng_of, li_zz, li_bb, li_clean, li_z, pr_zz, pr_bb, pr_clean, pr_z, ll_zz, ll_bb, ll_cleanO, ll_cleanZ, ll_z, clean, isZ, isZs, cleans, zzs, bbs, Fl.bb, dIn_li, dEq_li, dEq_pr, dEq_ll, dEq_int, taint, taints, li_taint, pr_taint, ll_taint, Fl.tt, li_len, pr_len, ll_len, keyOf, List.map_cons, List.map_nil, List.length_cons, List.length_nil, List.set_cons_zero, List.set_cons_succ, Option.map_some]) ?_
  refine step (env' := [some (.lst .z (li P)), some (.lst .z (pr T)), some (.lst .z (li X)), some (.lst .z (li (wo P X))), some (.bl (decide (X.length < G.length))), some (.lst .z (li P)), some (.lst .o (pr T)), none, none, none]) (by simp [evSs, evS, evE.eq_1, evE.eq_2, evE.eq_3, evE.eq_4, evE.eq_5, evE.eq_6, evE.eq_7, evE.eq_8, evE.eq_9, evE.eq_10, evE.eq_11, evE.eq_12, evE.eq_13, evE.eq_14, evE.eq_15, evE.eq_16, evE.eq_17, evE.eq_18, evE.eq_19, evE.eq_20, evE.eq_21, evE.eq_22, evE.eq_23, evE.eq_24, evE.eq_27, evEs, evP, evO, evTo, evT, evAnd, evOr, evTA, evTO, evIt, wp_bind, wp_nx, wp_if, wp_ok, wp_st, ok_bind, ok_nx, ok_rt, EV.R.of_some, rof_if, nxQ_nx, nxQ_rt, wp_noEx, g_0, g_s, s_0, s_s, s_t2, bb, zz, tru_bl, noEx_j, isi_list, isi_int, isi_bool, q_ll, q_llb, lenOk_of, b_add, b_sub, b_mul, b_div, b_mod, b_pow, mulOk_r, mulOk_l, divOk_of, c_lt, c_le, c_gt, c_ge, c_eq, c_ne, c_in, c_ni, dIn_dic, x_lst, x_scr, x_dic, l_lst, l_scr, l_abs, l_int, l_list, l_tup, l_sorted, l_sortedk, i_int, q_lst, q_lstp, q_b, q_bp, q_tup, q_tupp, a_app, a_put, t_0, t_s, rng_of, li_zz, li_bb, li_clean, li_z, pr_zz, pr_bb, pr_clean, pr_z, ll_zz, ll_bb, ll_cleanO, ll_cleanZ, ll_z, clean, isZ, isZs, cleans, zzs, bbs, Fl.bb, dIn_li, dEq_li, dEq_pr, dEq_ll, dEq_int, taint, taints, li_taint, pr_taint, ll_taint, Fl.tt, li_len, pr_len, ll_len, keyOf, List.map_cons, List.map_nil, List.length_cons, List.length_nil, List.set_cons_zero, List.set_cons_succ, Option.map_some]) ?_
  refine step (env' := [some (.lst .z (li P)), some (.lst .z (pr T)), some (.lst .z (li X)), some (.lst .z (li (wo P X))), some (.bl (decide (X.length < G.length))), some (.lst .z (li P)), some (.lst .z (pr T)), none, none, none]) (by simp [evSs, evS, evE.eq_1, evE.eq_2, evE.eq_3, evE.eq_4, evE.eq_5, evE.eq_6, evE.eq_7, evE.eq_8, evE.eq_9, evE.eq_10, evE.eq_11, evE.eq_12, evE.eq_13, evE.eq_14, evE.eq_15, evE.eq_16, evE.eq_17, evE.eq_18, evE.eq_19, evE.eq_20, evE.eq_21, evE.eq_22, evE.eq_23, evE.eq_24, evE.eq_27, evEs, evP, evO, evTo, evT, evAnd, evOr, evTA, evTO, evIt, wp_bind, wp_nx, wp_if, wp_ok, wp_st, ok_bind, ok_nx, ok_rt, EV.R.of_some, rof_if, nxQ_nx, nxQ_rt, wp_noEx, g_0, g_s, s_0, s_s, s_t2, bb, zz, tru_bl, noEx_j, isi_list, isi_int, isi_bool, q_ll, q_llb, lenOk_of, b_add, b_sub, b_mul, b_div, b_mod, b_pow, mulOk_r, mulOk_l, divOk_of, c_lt, c_le, c_gt, c_ge, c_eq, c_ne, c_in, c_ni, dIn_dic, x_lst, x_scr, x_dic, l_lst, l_scr, l_abs, l_int, l_list, l_tup, l_sorted, l_sortedk, i_int, q_lst, q_lstp, q_b, q_bp, q_tup, q_tupp, a_app, a_put, t_0, t_s, rng_of, li_zz, li_bb, li_clean, li_z, pr_zz, pr_bb, pr_clean, pr_z, ll_zz, ll_bb, ll_cleanO, ll_cleanZ, ll_z, clean, isZ, isZs, cleans, zzs, bbs, Fl.bb, dIn_li, dEq_li, dEq_pr, dEq_ll, dEq_int, taint, taints, li_taint, pr_taint, ll_taint, Fl.tt, li_len, pr_len, ll_len, keyOf, List.map_cons, List.map_nil, List.length_cons, List.length_nil, List.set_cons_zero, List.set_cons_succ, Option.map_some]) ?_
  refine step (env' := [some (.lst .z (li P)), some (.lst .z (pr T)), some (.lst .z (li X)), some (.lst .z (li (wo P X))), some (.bl (decide (X.length < G.length))), some (.lst .z (li P)), some (.lst .z (pr T)), some (.lst .o (li X)), none, none]) (by simp [evSs, evS, evE.eq_1, evE.eq_2, evE.eq_3, evE.eq_4, evE.eq_5, evE.eq_6, evE.eq_7, evE.eq_8, evE.eq_9, evE.eq_10, evE.eq_11, evE.eq_12, evE.eq_13, evE.eq_14, evE.eq_15, evE.eq_16, evE.eq_17, evE.eq_18, evE.eq_19, evE.eq_20, evE.eq_21, evE.eq_22, evE.eq_23, evE.eq_24, evE.eq_27, evEs, evP, evO, evTo, evT, evAnd, evOr, evTA, evTO, evIt, wp_bind, wp_nx, wp_if, wp_ok, wp_st, ok_bind, ok_nx, ok_rt, EV.R.of_some, rof_if, nxQ_nx, nxQ_rt, wp_noEx, g_0, g_s, s_0, s_s, s_t2, bb, zz, tru_bl, noEx_j, isi_list, isi_int, isi_bool, q_ll, q_llb, lenOk_of, b_add, b_sub, b_mul, b_div, b_mod, b_pow, mulOk_r, mulOk_l, divOk_of, c_lt, c_le, c_gt, c_ge, c_eq, c_ne, c_in, c_ni, dIn_dic, x_lst, x_scr, x_dic, l_lst, l_scr, l_abs, l_int, l_list, l_tup, l_sorted, l_sortedk, i_int, q_lst, q_lstp, q_b, q_bp, q_tup, q_tupp, a_app, a_put, t_0, t_s, rng_of, li_zz, li_bb, li_clean, li_z, pr_zz, pr_bb, pr_clean, pr_z, ll_zz, ll_bb, ll_cleanO, ll_cleanZ, ll_z, clean, isZ, isZs, cleans, zzs, bbs, Fl.bb, dIn_li, dEq_li, dEq_pr, dEq_ll, dEq_int, taint, taints, li_taint, pr_taint, ll_taint, Fl.tt, li_len, pr_len, ll_len, keyOf, List.map_cons, List.map_nil, List.length_cons, List.length_nil, List.set_cons_zero, List.set_cons_succ, Option.map_some]) ?_
  refine step (env' := [some (.lst .z (li P)), some (.lst .z (pr T)), some (.lst .z (li X)), some (.lst .z (li (wo P X))), some (.bl (decide (X.length < G.length))), some (.lst .z (li P)), some (.lst .z (pr T)), some (.lst .z (li X)), none, none]) (by simp [evSs, evS, evE.eq_1, evE.eq_2, evE.eq_3, evE.eq_4, evE.eq_5, evE.eq_6, evE.eq_7, evE.eq_8, evE.eq_9, evE.eq_10, evE.eq_11, evE.eq_12, evE.eq_13, evE.eq_14, evE.eq_15, evE.eq_16, evE.eq_17, evE.eq_18, evE.eq_19, evE.eq_20, evE.eq_21, evE.eq_22, evE.eq_23, evE.eq_24, evE.eq_27, evEs, evP, evO, evTo, evT, evAnd, evOr, evTA, evTO, evIt, wp_bind, wp_nx, wp_if, wp_ok, wp_st, ok_bind, ok_nx, ok_rt, EV.R.of_some, rof_if, nxQ_nx, nxQ_rt, wp_noEx, g_0, g_s, s_0, s_s, s_t2, bb, zz, tru_bl, noEx_j, isi_list, isi_int, isi_bool, q_ll, q_llb, lenOk_of, b_add, b_sub, b_mul, b_div, b_mod, b_pow, mulOk_r, mulOk_l, divOk_of, c_lt, c_le, c_gt, c_ge, c_eq, c_ne, c_in, c_ni, dIn_dic, x_lst, x_scr, x_dic, l_lst, l_scr, l_abs, l_int, l_list, l_tup, l_sorted, l_sortedk, i_int, q_lst, q_lstp, q_b, q_bp, q_tup, q_tupp, a_app, a_put, t_0, t_s, rng_of, li_zz, li_bb, li_clean, li_z, pr_zz, pr_bb, pr_clean, pr_z, ll_zz, ll_bb, ll_cleanO, ll_cleanZ, ll_z, clean, isZ, isZs, cleans, zzs, bbs, Fl.bb, dIn_li, dEq_li, dEq_pr, dEq_ll, dEq_int, taint, taints, li_taint, pr_taint, ll_taint, Fl.tt, li_len, pr_len, ll_len, keyOf, List.map_cons, List.map_nil, List.length_cons, List.length_nil, List.set_cons_zero, List.set_cons_succ, Option.map_some]) ?_
  refine step (env' := [some (.lst .z (li P)), some (.lst .z (pr T)), some (.lst .z (li X)), some (.lst .z (li (wo P X))), some (.bl (decide (X.length < G.length))), some (.lst .z (li P)), some (.lst .z (pr T)), some (.lst .z (li X)), some (.bl (decide (X.length < G.length))), none]) (by simp [evSs, evS, evE.eq_1, evE.eq_2, evE.eq_3, evE.eq_4, evE.eq_5, evE.eq_6, evE.eq_7, evE.eq_8, evE.eq_9, evE.eq_10, evE.eq_11, evE.eq_12, evE.eq_13, evE.eq_14, evE.eq_15, evE.eq_16, evE.eq_17, evE.eq_18, evE.eq_19, evE.eq_20, evE.eq_21, evE.eq_22, evE.eq_23, evE.eq_24, evE.eq_27, evEs, evP, evO, evTo, evT, evAnd, evOr, evTA, evTO, evIt, wp_bind, wp_nx, wp_if, wp_ok, wp_st, ok_bind, ok_nx, ok_rt, EV.R.of_some, rof_if, nxQ_nx, nxQ_rt, wp_noEx, g_0, g_s, s_0, s_s, s_t2, bb, zz, tru_bl, noEx_j, isi_list, isi_int, isi_bool, q_ll, q_llb, lenOk_of, b_add, b_sub, b_mul, b_div, b_mod, b_pow, mulOk_r, mulOk_l, divOk_of, c_lt, c_le, c_gt, c_ge, c_eq, c_ne, c_in, c_ni, dIn_dic, x_lst, x_scr, x_dic, l_lst, l_scr, l_abs, l_int, l_list, l_tup, l_sorted, l_sortedk, i_int, q_lst, q_lstp, q_b, q_bp, q_tup, q_tupp, a_app, a_put, t_0, t_s, rng_of, li_zz, li_bb, li_clean, li_z, pr_zz, pr_bb, pr_clean, pr_z, ll_zz, ll_bb, ll_cleanO, ll_cleanZ, ll_z, clean, isZ, isZs, cleans, zzs, bbs, Fl.bb, dIn_li, dEq_li, dEq_pr, dEq_ll, dEq_int, taint, taints, li_taint, pr_taint, ll_taint, Fl.tt, li_len, pr_len, ll_len, keyOf, List.map_cons, List.map_nil, List.length_cons, List.length_nil, List.set_cons_zero, List.set_cons_succ, Option.map_some, t15_5, k4]) ?_
  refine step (env' := [some (.lst .z (li P)), some (.lst .z (pr T)), some (.lst .z (li X)), some (.lst .z (li (wo P X))), some (.bl (decide (X.length < G.length))), some (.lst .z (li P)), some (.lst .z (pr T)), some (.lst .z (li X)), some (.bl (decide (X.length < G.length))), none]) (by simp [evSs, evS, evE.eq_1, evE.eq_2, evE.eq_3, evE.eq_4, evE.eq_5, evE.eq_6, evE.eq_7, evE.eq_8, evE.eq_9, evE.eq_10, evE.eq_11, evE.eq_12, evE.eq_13, evE.eq_14, evE.eq_15, evE.eq_16, evE.eq_17, evE.eq_18, evE.eq_19, evE.eq_20, evE.eq_21, evE.eq_22, evE.eq_23, evE.eq_24, evE.eq_27, evEs, evP, evO, evTo, evT, evAnd, evOr, evTA, evTO, evIt, wp_bind, wp_nx, wp_if, wp_ok, wp_st, ok_bind, ok_nx, ok_rt, EV.R.of_some, rof_if, nxQ_nx, nxQ_rt, wp_noEx, g_0, g_s, s_0, s_s, s_t2, bb, zz, tru_bl, noEx_j, isi_list, isi_int, isi_bool, q_ll, q_llb, lenOk_of, b_add, b_sub, b_mul, b_div, b_mod, b_pow, mulOk_r, mulOk_l, divOk_of, c_lt, c_le, c_gt, c_ge, c_eq, c_ne, c_in, c_ni, dIn_dic, x_lst, x_scr, x_dic, l_lst, l_scr, l_abs, l_int, l_list, l_tup, l_sorted, l_sortedk, i_int, q_lst, q_lstp, q_b, q_bp, q_tup, q_tupp, a_app, a_put, t_0, t_s, rng_of, li_zz, li_bb, li_clean, li_z, pr_zz, pr_bb, pr_clean, pr_z, ll_zz, ll_bb, ll_cleanO, ll_cleanZ, ll_z, clean, isZ, isZs, cleans, zzs, bbs, Fl.bb, dIn_li, dEq_li, dEq_pr, dEq_ll, dEq_int, taint, taints, li_taint, pr_taint, ll_taint, Fl.tt, li_len, pr_len, ll_len, keyOf, List.map_cons, List.map_nil, List.length_cons, List.length_nil, List.set_cons_zero, List.set_cons_succ, Option.map_some]) ?_
  refine step (env' := [some (.lst .z (li P)), some (.lst .z (pr T)), some (.lst .z (li X)), some (.lst .z (li (wo P X))), some (.bl (decide (X.length < G.length))), some (.lst .z (li P)), some (.lst .z (pr T)), some (.lst .z (li X)), some (.bl (decide (X.length < G.length))), none]) (by simp [evSs, evS, evE.eq_1, evE.eq_2, evE.eq_3, evE.eq_4, evE.eq_5, evE.eq_6, evE.eq_7, evE.eq_8, evE.eq_9, evE.eq_10, evE.eq_11, evE.eq_12, evE.eq_13, evE.eq_14, evE.eq_15, evE.eq_16, evE.eq_17, evE.eq_18, evE.eq_19, evE.eq_20, evE.eq_21, evE.eq_22, evE.eq_23, evE.eq_24, evE.eq_27, evEs, evP, evO, evTo, evT, evAnd, evOr, evTA, evTO, evIt, wp_bind, wp_nx, wp_if, wp_ok, wp_st, ok_bind, ok_nx, ok_rt, EV.R.of_some, rof_if, nxQ_nx, nxQ_rt, wp_noEx, g_0, g_s, s_0, s_s, s_t2, bb, zz, tru_bl, noEx_j, isi_list, isi_int, isi_bool, q_ll, q_llb, lenOk_of, b_add, b_sub, b_mul, b_div, b_mod, b_pow, mulOk_r, mulOk_l, divOk_of, c_lt, c_le, c_gt, c_ge, c_eq, c_ne, c_in, c_ni, dIn_dic, x_lst, x_scr, x_dic, l_lst, l_scr, l_abs, l_int, l_list, l_tup, l_sorted, l_sortedk, i_int, q_lst, q_lstp, q_b, q_bp, q_tup, q_tupp, a_app, a_put, t_0, t_s, rng_of, li_zz, li_bb, li_clean, li_z, pr_zz, pr_bb, pr_clean, pr_z, ll_zz, ll_bb, ll_cleanO, ll_cleanZ, ll_z, clean, isZ, isZs, cleans, zzs, bbs, Fl.bb, dIn_li, dEq_li, dEq_pr, dEq_ll, dEq_int, taint, taints, li_taint, pr_taint, ll_taint, Fl.tt, li_len, pr_len, ll_len, keyOf, List.map_cons, List.map_nil, List.length_cons, List.length_nil, List.set_cons_zero, List.set_cons_succ, Option.map_some]) ?_
  simp [evSs, evS, evE.eq_1, evE.eq_2, evE.eq_3, evE.eq_4, evE.eq_5, evE.eq_6, evE.eq_7, evE.eq_8, evE.eq_9, evE.eq_10, evE.eq_11, evE.eq_12, evE.eq_13, evE.eq_14, evE.eq_15, evE.eq_16, evE.eq_17, evE.eq_18, evE.eq_19, evE.eq_20, evE.eq_21, evE.eq_22, evE.eq_23, evE.eq_24, evE.eq_27, evEs, evP, evO, evTo, evT, evAnd, evOr, evTA, evTO, evIt, wp_bind, wp_nx, wp_if, wp_ok, wp_st, ok_bind, ok_nx, ok_rt, EV.R.of_some, rof_if, nxQ_nx, nxQ_rt, wp_noEx, g_0, g_s, s_0, s_s, s_t2, bb, zz, tru_bl, noEx_j, isi_list, isi_int, isi_bool, q_ll, q_llb, lenOk_of, b_add, b_sub, b_mul, b_div, b_mod, b_pow, mulOk_r, mulOk_l, divOk_of, c_lt, c_le, c_gt, c_ge, c_eq, c_ne, c_in, c_ni, dIn_dic, x_lst, x_scr, x_dic, l_lst, l_scr, l_abs, l_int, l_list, l_tup, l_sorted, l_sortedk, i_int, q_lst, q_lstp, q_b, q_bp, q_tup, q_tupp, a_app, a_put, t_0, t_s, rng_of, li_zz, li_bb, li_clean, li_z, pr_zz, pr_bb, pr_clean, pr_z, ll_zz, ll_bb, ll_cleanO, ll_cleanZ, ll_z, clean, isZ, isZs, cleans, zzs, bbs, Fl.bb, dIn_li, dEq_li, dEq_pr, dEq_ll, dEq_int, taint, taints, li_taint, pr_taint, ll_taint, Fl.tt, li_len, pr_len, ll_len, keyOf, List.map_cons, List.map_nil, List.length_cons, List.length_nil, List.set_cons_zero, List.set_cons_succ, Option.map_some, isi_boolb, hd]
end K36
namespace K36
open PySem L2 EV
theorem step_fr {Φ : Nat → FD} {it : EV.It} {tg : Tg} {b ss : Ss} {env : EV.Env} {ds : List D} {Q : Out → Prop} (hi : evIt Φ it false env = .ok ds)
    (k : Wp (forL (fun d env => (setTg tg d env).bind fun env' => evSs Φ b env') ds env) (nxQ (evSs Φ ss) Q)) : Wp (evSs Φ (.cons (.fr it tg b) ss) env) Q := by
  rw [evSs, wp_nx, evS, hi, ok_bind]; exact k
theorem app_all {G : List (List Int)} {x : Int} (h : ∀ g ∈ G, g.length < sizeLine) : ((ll .o G).all fun t => (appO t (.int x)).isSome) = true ∧ (ll .o G).map (fun t => (appO t (.int x)).getD t) = ll .o (G.map fun g => g ++ [x]) := by
  induction G with
  | nil => exact ⟨rfl, rfl⟩
  | cons g G ih =>
    obtain ⟨h1, h2⟩ := ih fun q hq => h q (by simp [hq])
    have e : appO (.lst .o (li g)) (.int x) = some (.lst .o (li (g ++ [x]))) := by rw [a_app, li_len, if_pos (h g (by simp)), li_app]
    refine ⟨?_, ?_⟩
    · show ((appO (.lst .o (li g)) (.int x)).isSome && (ll .o G).all fun t => (appO t (.int x)).isSome) = true
      rw [h1, e]; rfl
    · show (appO (.lst .o (li g)) (.int x)).getD (.lst .o (li g)) :: (ll .o G).map (fun t => (appO t (.int x)).getD t) = _
      rw [h2, e]; rfl
theorem each_ll {G : List (List Int)} {x : Int} (h : ∀ g ∈ G, g.length < sizeLine) : eachO (.int x) (.lst .o (ll .o G)) = some (.lst .o (ll .o (G.map fun g => g ++ [x]))) := by
  obtain ⟨h1, h2⟩ := app_all (x := x) h
  show (if (ll .o G).all (fun t => (appO t (.int x)).isSome) = true then some (D.lst .o ((ll .o G).map fun t => (appO t (.int x)).getD t)) else none) = _
  rw [if_pos h1, h2]
theorem cut_li {R : List Int} {lo hi : Option Int} : cutD (li R) lo hi = li (cutD R lo hi) := by
  unfold cutD
  rw [li_len]
  simp [li, List.map_take, List.map_drop]
theorem cut_sub {R : List Int} {lo hi : Option Int} : (cutD R lo hi).Sublist R := (List.take_sublist _ _).trans (List.drop_sublist _ _)
def I16 (s p l : D) (i : Nat) (e : EV.Env) : Prop := ∃ (T : List (Int × Int)) (v : Option D), e = [some s, some p, some l, some (.lst .o (pr T)), v, none, none, none, none, none, none, none] ∧ T.length = i
def J16 (s p l t : D) (v4 v5 v6 v7 v8 v9 : Option D) (i : Nat) (e : EV.Env) : Prop := ∃ v : Option D, e = [some s, some p, some l, some t, v4, v5, v6, v7, v8, v9, none, v]
theorem law_ok {s : D} (hz : isZ s = true) (hb : bb s = s) (hc : ∀ k : Int, 0 ≤ k → Wp (F6.sem [s, .int k]) fun d => ∃ c, d = .int c) : (tabR drs 16).sem [s] = .ok (.bl true) := by
  obtain ⟨d1, q1, c1, rfl⟩ := hc 0 (by decide)
  obtain ⟨d2, q2, c2, rfl⟩ := hc 1 (by decide)
  obtain ⟨d3, q3, c3, rfl⟩ := hc 2 (by decide)
  obtain ⟨d4, q4, L1, rfl, _⟩ := draws_ok c1 30 (by decide) (by decide)
  obtain ⟨d5, q5, L2, rfl, _⟩ := draws_ok c2 60 (by decide) (by decide)
  obtain ⟨d6, q6, L3, rfl, _⟩ := draws_ok c3 16 (by decide) (by decide)
  obtain ⟨d7, q7, P, rfl, hn, hP⟩ := points_ok L1 14 (by decide) (by decide)
  have hP : P.length ≤ 14 := by omega
  obtain ⟨d8, q8, Q, R, rfl, pm⟩ := removed_ok L3 hP
  have k1 : callD F6 [s, .int 0] = .ok (.int c1) := by rw [callD_z rfl (by simp [isZs, isZ, hz]), q1]
  have k2 : callD F6 [s, .int 1] = .ok (.int c2) := by rw [callD_z rfl (by simp [isZs, isZ, hz]), q2]
  have k3 : callD F6 [s, .int 2] = .ok (.int c3) := by rw [callD_z rfl (by simp [isZs, isZ, hz]), q3]
  have k4 : callD F7 [.int c1, .int 30] = .ok (.lst .o (li L1)) := by rw [callD_z rfl (by simp [isZs, isZ]), q4]
  have k5 : callD F7 [.int c2, .int 60] = .ok (.lst .o (li L2)) := by rw [callD_z rfl (by simp [isZs, isZ]), q5]
  have k6 : callD F7 [.int c3, .int 16] = .ok (.lst .o (li L3)) := by rw [callD_z rfl (by simp [isZs, isZ]), q6]
  have k7 : callD F9 [.lst .o (li L1), .int 14] = .ok (.lst .o (li P)) := by
    rw [callD_b rfl (by simp [isZs, isZ])]
    show (F9.sem [.lst .z (zzs (li L1)), .int 14]).bind _ = _
    rw [li_zz, q7, ok_bind]
    simp [taint, li_taint, Fl.tt]
  have k8 : callD F13 [.lst .o (li L3), .lst .z (li P)] = .ok (.lst .o (li R)) := by
    rw [callD_b rfl (by simp [isZs, isZ])]
    show (F13.sem [.lst .z (zzs (li L3)), .lst .z (zzs (li P))]).bind _ = _
    rw [li_zz, li_zz, q8, ok_bind]
    simp [taint, li_taint, Fl.tt]
  rw [law_sem]
  refine wp_eq ?_
  rw [wp_noEx]
  unfold runF dr16
  show Wp (EV.R.bind (evSs T16 _ [some s, none, none, none, none, none, none, none, none, none, none, none]) _) _
  rw [wp_bind]
  refine step (env' := [some s, some (.lst .o (li P)), none, none, none, none, none, none, none, none, none, none]) (by simp [evSs, evS, evE.eq_1, evE.eq_2, evE.eq_3, evE.eq_4, evE.eq_5, evE.eq_6, evE.eq_7, evE.eq_8, evE.eq_9, evE.eq_10, evE.eq_11, evE.eq_12, evE.eq_13, evE.eq_14, evE.eq_15, evE.eq_16, evE.eq_17, evE.eq_18, evE.eq_19, evE.eq_20, evE.eq_21, evE.eq_22, evE.eq_23, evE.eq_24, evE.eq_27, evEs, evP, evO, evTo, evT, evAnd, evOr, evTA, evTO, evIt, wp_bind, wp_nx, wp_if, wp_ok, wp_st, ok_bind, ok_nx, ok_rt, EV.R.of_some, rof_if, nxQ_nx, nxQ_rt, wp_noEx, g_0, g_s, s_0, s_s, s_t2, bb, zz, tru_bl, noEx_j, isi_list, isi_int, isi_bool, q_ll, q_llb, lenOk_of, b_add, b_sub, b_mul, b_div, b_mod, b_pow, mulOk_r, mulOk_l, divOk_of, c_lt, c_le, c_gt, c_ge, c_eq, c_ne, c_in, c_ni, dIn_dic, x_lst, x_scr, x_dic, l_lst, l_scr, l_abs, l_int, l_list, l_tup, l_sorted, l_sortedk, i_int, q_lst, q_lstp, q_b, q_bp, q_tup, q_tupp, a_app, a_put, t_0, t_s, rng_of, li_zz, li_bb, li_clean, li_z, pr_zz, pr_bb, pr_clean, pr_z, ll_zz, ll_bb, ll_cleanO, ll_cleanZ, ll_z, clean, isZ, isZs, cleans, zzs, bbs, Fl.bb, dIn_li, dEq_li, dEq_pr, dEq_ll, dEq_int, taint, taints, li_taint, pr_taint, ll_taint, Fl.tt, li_len, pr_len, ll_len, keyOf, List.map_cons, List.map_nil, List.length_cons, List.length_nil, List.set_cons_zero, List.set_cons_succ, Option.map_some, hb, t16_6, t16_7, t16_9, k1, k4, k7]) ?_
  refine step (env' := [some s, some (.lst .z (li P)), none, none, none, none, none, none, none, none, none, none]) (by simp [evSs, evS, evE.eq_1, evE.eq_2, evE.eq_3, evE.eq_4, evE.eq_5, evE.eq_6, evE.eq_7, evE.eq_8, evE.eq_9, evE.eq_10, evE.eq_11, evE.eq_12, evE.eq_13, evE.eq_14, evE.eq_15, evE.eq_16, evE.eq_17, evE.eq_18, evE.eq_19, evE.eq_20, evE.eq_21, evE.eq_22, evE.eq_23, evE.eq_24, evE.eq_27, evEs, evP, evO, evTo, evT, evAnd, evOr, evTA, evTO, evIt, wp_bind, wp_nx, wp_if, wp_ok, wp_st, ok_bind, ok_nx, ok_rt, EV.R.of_some, rof_if, nxQ_nx, nxQ_rt, wp_noEx, g_0, g_s, s_0, s_s, s_t2, bb, zz, tru_bl, noEx_j, isi_list, isi_int, isi_bool, q_ll, q_llb, lenOk_of, b_add, b_sub, b_mul, b_div, b_mod, b_pow, mulOk_r, mulOk_l, divOk_of, c_lt, c_le, c_gt, c_ge, c_eq, c_ne, c_in, c_ni, dIn_dic, x_lst, x_scr, x_dic, l_lst, l_scr, l_abs, l_int, l_list, l_tup, l_sorted, l_sortedk, i_int, q_lst, q_lstp, q_b, q_bp, q_tup, q_tupp, a_app, a_put, t_0, t_s, rng_of, li_zz, li_bb, li_clean, li_z, pr_zz, pr_bb, pr_clean, pr_z, ll_zz, ll_bb, ll_cleanO, ll_cleanZ, ll_z, clean, isZ, isZs, cleans, zzs, bbs, Fl.bb, dIn_li, dEq_li, dEq_pr, dEq_ll, dEq_int, taint, taints, li_taint, pr_taint, ll_taint, Fl.tt, li_len, pr_len, ll_len, keyOf, List.map_cons, List.map_nil, List.length_cons, List.length_nil, List.set_cons_zero, List.set_cons_succ, Option.map_some]) ?_
  refine step (env' := [some s, some (.lst .z (li P)), some (.lst .o (li L2)), none, none, none, none, none, none, none, none, none]) (by simp [evSs, evS, evE.eq_1, evE.eq_2, evE.eq_3, evE.eq_4, evE.eq_5, evE.eq_6, evE.eq_7, evE.eq_8, evE.eq_9, evE.eq_10, evE.eq_11, evE.eq_12, evE.eq_13, evE.eq_14, evE.eq_15, evE.eq_16, evE.eq_17, evE.eq_18, evE.eq_19, evE.eq_20, evE.eq_21, evE.eq_22, evE.eq_23, evE.eq_24, evE.eq_27, evEs, evP, evO, evTo, evT, evAnd, evOr, evTA, evTO, evIt, wp_bind, wp_nx, wp_if, wp_ok, wp_st, ok_bind, ok_nx, ok_rt, EV.R.of_some, rof_if, nxQ_nx, nxQ_rt, wp_noEx, g_0, g_s, s_0, s_s, s_t2, bb, zz, tru_bl, noEx_j, isi_list, isi_int, isi_bool, q_ll, q_llb, lenOk_of, b_add, b_sub, b_mul, b_div, b_mod, b_pow, mulOk_r, mulOk_l, divOk_of, c_lt, c_le, c_gt, c_ge, c_eq, c_ne, c_in, c_ni, dIn_dic, x_lst, x_scr, x_dic, l_lst, l_scr, l_abs, l_int, l_list, l_tup, l_sorted, l_sortedk, i_int, q_lst, q_lstp, q_b, q_bp, q_tup, q_tupp, a_app, a_put, t_0, t_s, rng_of, li_zz, li_bb, li_clean, li_z, pr_zz, pr_bb, pr_clean, pr_z, ll_zz, ll_bb, ll_cleanO, ll_cleanZ, ll_z, clean, isZ, isZs, cleans, zzs, bbs, Fl.bb, dIn_li, dEq_li, dEq_pr, dEq_ll, dEq_int, taint, taints, li_taint, pr_taint, ll_taint, Fl.tt, li_len, pr_len, ll_len, keyOf, List.map_cons, List.map_nil, List.length_cons, List.length_nil, List.set_cons_zero, List.set_cons_succ, Option.map_some, hb, t16_6, t16_7, k2, k5]) ?_
  refine step (env' := [some s, some (.lst .z (li P)), some (.lst .z (li L2)), none, none, none, none, none, none, none, none, none]) (by simp [evSs, evS, evE.eq_1, evE.eq_2, evE.eq_3, evE.eq_4, evE.eq_5, evE.eq_6, evE.eq_7, evE.eq_8, evE.eq_9, evE.eq_10, evE.eq_11, evE.eq_12, evE.eq_13, evE.eq_14, evE.eq_15, evE.eq_16, evE.eq_17, evE.eq_18, evE.eq_19, evE.eq_20, evE.eq_21, evE.eq_22, evE.eq_23, evE.eq_24, evE.eq_27, evEs, evP, evO, evTo, evT, evAnd, evOr, evTA, evTO, evIt, wp_bind, wp_nx, wp_if, wp_ok, wp_st, ok_bind, ok_nx, ok_rt, EV.R.of_some, rof_if, nxQ_nx, nxQ_rt, wp_noEx, g_0, g_s, s_0, s_s, s_t2, bb, zz, tru_bl, noEx_j, isi_list, isi_int, isi_bool, q_ll, q_llb, lenOk_of, b_add, b_sub, b_mul, b_div, b_mod, b_pow, mulOk_r, mulOk_l, divOk_of, c_lt, c_le, c_gt, c_ge, c_eq, c_ne, c_in, c_ni, dIn_dic, x_lst, x_scr, x_dic, l_lst, l_scr, l_abs, l_int, l_list, l_tup, l_sorted, l_sortedk, i_int, q_lst, q_lstp, q_b, q_bp, q_tup, q_tupp, a_app, a_put, t_0, t_s, rng_of, li_zz, li_bb, li_clean, li_z, pr_zz, pr_bb, pr_clean, pr_z, ll_zz, ll_bb, ll_cleanO, ll_cleanZ, ll_z, clean, isZ, isZs, cleans, zzs, bbs, Fl.bb, dIn_li, dEq_li, dEq_pr, dEq_ll, dEq_int, taint, taints, li_taint, pr_taint, ll_taint, Fl.tt, li_len, pr_len, ll_len, keyOf, List.map_cons, List.map_nil, List.length_cons, List.length_nil, List.set_cons_zero, List.set_cons_succ, Option.map_some]) ?_
  refine step (env' := [some s, some (.lst .z (li P)), some (.lst .z (li L2)), some (.lst .o (pr [])), none, none, none, none, none, none, none, none]) (by simp [evSs, evS, evE.eq_1, evE.eq_2, evE.eq_3, evE.eq_4, evE.eq_5, evE.eq_6, evE.eq_7, evE.eq_8, evE.eq_9, evE.eq_10, evE.eq_11, evE.eq_12, evE.eq_13, evE.eq_14, evE.eq_15, evE.eq_16, evE.eq_17, evE.eq_18, evE.eq_19, evE.eq_20, evE.eq_21, evE.eq_22, evE.eq_23, evE.eq_24, evE.eq_27, evEs, evP, evO, evTo, evT, evAnd, evOr, evTA, evTO, evIt, wp_bind, wp_nx, wp_if, wp_ok, wp_st, ok_bind, ok_nx, ok_rt, EV.R.of_some, rof_if, nxQ_nx, nxQ_rt, wp_noEx, g_0, g_s, s_0, s_s, s_t2, bb, zz, tru_bl, noEx_j, isi_list, isi_int, isi_bool, q_ll, q_llb, lenOk_of, b_add, b_sub, b_mul, b_div, b_mod, b_pow, mulOk_r, mulOk_l, divOk_of, c_lt, c_le, c_gt, c_ge, c_eq, c_ne, c_in, c_ni, dIn_dic, x_lst, x_scr, x_dic, l_lst, l_scr, l_abs, l_int, l_list, l_tup, l_sorted, l_sortedk, i_int, q_lst, q_lstp, q_b, q_bp, q_tup, q_tupp, a_app, a_put, t_0, t_s, rng_of, li_zz, li_bb, li_clean, li_z, pr_zz, pr_bb, pr_clean, pr_z, ll_zz, ll_bb, ll_cleanO, ll_cleanZ, ll_z, clean, isZ, isZs, cleans, zzs, bbs, Fl.bb, dIn_li, dEq_li, dEq_pr, dEq_ll, dEq_int, taint, taints, li_taint, pr_taint, ll_taint, Fl.tt, li_len, pr_len, ll_len, keyOf, List.map_cons, List.map_nil, List.length_cons, List.length_nil, List.set_cons_zero, List.set_cons_succ, Option.map_some, pr]) ?_
  obtain ⟨_, p0, p1⟩ := pick_all L2 0 15
  refine step_fr (ds := rangeD 0 (pk L2 0 15).toNat) ?_ ?_
  · rw [evIt]
    simp [evSs, evS, evE.eq_1, evE.eq_2, evE.eq_3, evE.eq_4, evE.eq_5, evE.eq_6, evE.eq_7, evE.eq_8, evE.eq_9, evE.eq_10, evE.eq_11, evE.eq_12, evE.eq_13, evE.eq_14, evE.eq_15, evE.eq_16, evE.eq_17, evE.eq_18, evE.eq_19, evE.eq_20, evE.eq_21, evE.eq_22, evE.eq_23, evE.eq_24, evE.eq_27, evEs, evP, evO, evTo, evT, evAnd, evOr, evTA, evTO, evIt, wp_bind, wp_nx, wp_if, wp_ok, wp_st, ok_bind, ok_nx, ok_rt, EV.R.of_some, rof_if, nxQ_nx, nxQ_rt, wp_noEx, g_0, g_s, s_0, s_s, s_t2, bb, zz, tru_bl, noEx_j, isi_list, isi_int, isi_bool, q_ll, q_llb, lenOk_of, b_add, b_sub, b_mul, b_div, b_mod, b_pow, mulOk_r, mulOk_l, divOk_of, c_lt, c_le, c_gt, c_ge, c_eq, c_ne, c_in, c_ni, dIn_dic, x_lst, x_scr, x_dic, l_lst, l_scr, l_abs, l_int, l_list, l_tup, l_sorted, l_sortedk, i_int, q_lst, q_lstp, q_b, q_bp, q_tup, q_tupp, a_app, a_put, t_0, t_s, rng_of, li_zz, li_bb, li_clean, li_z, pr_zz, pr_bb, pr_clean, pr_z, ll_zz, ll_bb, ll_cleanO, ll_cleanZ, ll_z, clean, isZ, isZs, cleans, zzs, bbs, Fl.bb, dIn_li, dEq_li, dEq_pr, dEq_ll, dEq_int, taint, taints, li_taint, pr_taint, ll_taint, Fl.tt, li_len, pr_len, ll_len, keyOf, List.map_cons, List.map_nil, List.length_cons, List.length_nil, List.set_cons_zero, List.set_cons_succ, Option.map_some, t16_8, pick_call]
    exact rng_of (by omega) (by omega)
  refine wp_for (I16 s (.lst .z (li P)) (.lst .z (li L2))) ⟨[], _, rfl, rfl⟩ ?_ ?_
  · rintro i d e hi ⟨T, v, rfl, hl⟩
    obtain ⟨rfl, hi2⟩ := range_get hi
    have hs : T.length < sizeLine := by show T.length < 16777216; omega
    simp [evSs, evS, evE.eq_1, evE.eq_2, evE.eq_3, evE.eq_4, evE.eq_5, evE.eq_6, evE.eq_7, evE.eq_8, evE.eq_9, evE.eq_10, evE.eq_11, evE.eq_12, evE.eq_13, evE.eq_14, evE.eq_15, evE.eq_16, evE.eq_17, evE.eq_18, evE.eq_19, evE.eq_20, evE.eq_21, evE.eq_22, evE.eq_23, evE.eq_24, evE.eq_27, evEs, evP, evO, evTo, evT, evAnd, evOr, evTA, evTO, evIt, wp_bind, wp_nx, wp_if, wp_ok, wp_st, ok_bind, ok_nx, ok_rt, EV.R.of_some, rof_if, nxQ_nx, nxQ_rt, wp_noEx, g_0, g_s, s_0, s_s, s_t2, bb, zz, tru_bl, noEx_j, isi_list, isi_int, isi_bool, q_ll, q_llb, lenOk_of, b_add, b_sub, b_mul, b_div, b_mod, b_pow, mulOk_r, mulOk_l, divOk_of, c_lt, c_le, c_gt, c_ge, c_eq, c_ne, c_in, c_ni, dIn_dic, x_lst, x_scr, x_dic, l_lst, l_scr, l_abs, l_int, l_list, l_tup, l_sorted, l_sortedk, i_int, q_lst, q_lstp, q_b, q_bp, q_tup, q_tupp, a_app, a_put, t_0, t_s, rng_of, li_zz, li_bb, li_clean, li_z, pr_zz, pr_bb, pr_clean, pr_z, ll_zz, ll_bb, ll_cleanO, ll_cleanZ, ll_z, clean, isZ, isZs, cleans, zzs, bbs, Fl.bb, dIn_li, dEq_li, dEq_pr, dEq_ll, dEq_int, taint, taints, li_taint, pr_taint, ll_taint, Fl.tt, li_len, pr_len, ll_len, keyOf, List.map_cons, List.map_nil, List.length_cons, List.length_nil, List.set_cons_zero, List.set_cons_succ, Option.map_some, t16_10, end_call, hs]
    exact post_nx ⟨T ++ [_], _, by rw [pr_app], by simp [hl]⟩
  rintro e ⟨T, v4, rfl, hl⟩
  rw [range_len] at hl
  have hT : T.length ≤ 14 := by omega
  rw [nxQ_nx]
  have hQR : (Q ++ R).Nodup := pm.nodup_iff.mpr hn
  have hR : R.Nodup := (List.nodup_append.mp hQR).2.1
  have hRl : R.length ≤ 14 := by
    have := pm.length_eq
    rw [List.length_append] at this
    omega
  have hGl := Nat.le_trans (List.length_filter_le (fun g : List Int => decide (g.length % 2 = 1)) (grp P T)) (grp_len (T := T) hn hP)
  have hgl : ∀ g ∈ oddf (grp P T), g.length < sizeLine := fun g hg => by
    have hg2 := (List.mem_filter.mp hg).1
    have S := st_all (P := P) (h := adj P T) (fun p x => adj_sym) (fun p _ x hx => (mem_adj.mp hx).2.2) hP hn P.length (Nat.le_refl _)
    have et : (sortI P).take P.length = sortI P := by rw [← sortI_len, List.take_length]
    rw [et] at S
    obtain ⟨w, hw, rfl⟩ := S.gg g hg2
    obtain ⟨_, fd, _⟩ := rcl_all (h := adj P T) hw (fun p _ x hx => (mem_adj.mp hx).2.2) hP
    rw [sortI_len]
    have := nodup_le fd.nd fd.sub
    show _ < 16777216; omega
  have k9 : callD F12 [.lst .z (li P), .lst .z (pr T)] = .ok (.lst .o (ll .o (oddf (grp P T)))) := by
    rw [callD_z rfl (by simp [isZs, isZ, li_z, pr_z]), lawodd_ok hn hP hT]
  have k10 : callD F3 [.lst .z (li P), .lst .z (pr T)] = .ok (.lst .o (ll .o (oddf (grp P T)))) := by
    rw [callD_z rfl (by simp [isZs, isZ, li_z, pr_z]), odd_ok (.inl rfl) (.inl rfl) hn hP hT]
  have k11 : callD F3 [.lst .o (li P), .lst .o (pr T)] = .ok (.lst .o (ll .o (oddf (grp P T)))) := by
    rw [callD_b rfl (by simp [isZs, isZ])]
    show (F3.sem [.lst .z (zzs (li P)), .lst .z (zzs (pr T))]).bind _ = _
    rw [li_zz, pr_zz, odd_ok (.inl rfl) (.inl rfl) hn hP hT, ok_bind]
    simp [taint, ll_taint, Fl.tt]
  have hbars : ∀ X : List Int, X.Nodup → X.length ≤ 14 → callD F15 [.lst .z (li P), .lst .z (pr T), .lst .o (li X)] = .ok (.bl true) := fun X h1 h2 => by
    rw [callD_b rfl (by simp [isZs, isZ])]
    show (F15.sem [.lst .z (zzs (li P)), .lst .z (zzs (pr T)), .lst .z (zzs (li X))]).bind _ = _
    rw [li_zz, pr_zz, li_zz, barsl_ok hn hP hT h1 h2]; rfl
  have hGl2 : (oddf (grp P T)).length ≤ 14 := hGl
  clear hGl
  revert k9 k10 k11 hgl hGl2
  generalize oddf (grp P T) = G
  intro hgl k9 k10 k11 hGl
  have k12 : callD F14 [.lst .b (ll .b G), .lst .z (ll .z G)] = .ok (.bl true) := by
    rw [callD_b rfl (by simp [isZs, isZ])]
    show (F14.sem [.lst .z (zzs (ll .b G)), .lst .z (zzs (ll .z G))]).bind _ = _
    rw [ll_zz, ll_zz, same_ok (by omega)]; rfl
  have k13 : callD F14 [.lst .o (ll .o G), .lst .z (ll .z G)] = .ok (.bl true) := by
    rw [callD_b rfl (by simp [isZs, isZ])]
    show (F14.sem [.lst .z (zzs (ll .o G)), .lst .z (zzs (ll .z G))]).bind _ = _
    rw [ll_zz, ll_zz, same_ok (by omega)]; rfl
  have hs : (G.map fun g => g ++ [(5000 : Int)]).length < sizeLine := by show _ < 16777216; simp; omega
  refine step (env' := [some s, some (.lst .z (li P)), some (.lst .z (li L2)), some (.lst .z (pr T)), v4, none, none, none, none, none, none, none]) (by simp [evSs, evS, evE.eq_1, evE.eq_2, evE.eq_3, evE.eq_4, evE.eq_5, evE.eq_6, evE.eq_7, evE.eq_8, evE.eq_9, evE.eq_10, evE.eq_11, evE.eq_12, evE.eq_13, evE.eq_14, evE.eq_15, evE.eq_16, evE.eq_17, evE.eq_18, evE.eq_19, evE.eq_20, evE.eq_21, evE.eq_22, evE.eq_23, evE.eq_24, evE.eq_27, evEs, evP, evO, evTo, evT, evAnd, evOr, evTA, evTO, evIt, wp_bind, wp_nx, wp_if, wp_ok, wp_st, ok_bind, ok_nx, ok_rt, EV.R.of_some, rof_if, nxQ_nx, nxQ_rt, wp_noEx, g_0, g_s, s_0, s_s, s_t2, bb, zz, tru_bl, noEx_j, isi_list, isi_int, isi_bool, q_ll, q_llb, lenOk_of, b_add, b_sub, b_mul, b_div, b_mod, b_pow, mulOk_r, mulOk_l, divOk_of, c_lt, c_le, c_gt, c_ge, c_eq, c_ne, c_in, c_ni, dIn_dic, x_lst, x_scr, x_dic, l_lst, l_scr, l_abs, l_int, l_list, l_tup, l_sorted, l_sortedk, i_int, q_lst, q_lstp, q_b, q_bp, q_tup, q_tupp, a_app, a_put, t_0, t_s, rng_of, li_zz, li_bb, li_clean, li_z, pr_zz, pr_bb, pr_clean, pr_z, ll_zz, ll_bb, ll_cleanO, ll_cleanZ, ll_z, clean, isZ, isZs, cleans, zzs, bbs, Fl.bb, dIn_li, dEq_li, dEq_pr, dEq_ll, dEq_int, taint, taints, li_taint, pr_taint, ll_taint, Fl.tt, li_len, pr_len, ll_len, keyOf, List.map_cons, List.map_nil, List.length_cons, List.length_nil, List.set_cons_zero, List.set_cons_succ, Option.map_some]) ?_
  refine step (env' := [some s, some (.lst .z (li P)), some (.lst .z (li L2)), some (.lst .z (pr T)), v4, some (.lst .o (li R)), none, none, none, none, none, none]) (by simp [evSs, evS, evE.eq_1, evE.eq_2, evE.eq_3, evE.eq_4, evE.eq_5, evE.eq_6, evE.eq_7, evE.eq_8, evE.eq_9, evE.eq_10, evE.eq_11, evE.eq_12, evE.eq_13, evE.eq_14, evE.eq_15, evE.eq_16, evE.eq_17, evE.eq_18, evE.eq_19, evE.eq_20, evE.eq_21, evE.eq_22, evE.eq_23, evE.eq_24, evE.eq_27, evEs, evP, evO, evTo, evT, evAnd, evOr, evTA, evTO, evIt, wp_bind, wp_nx, wp_if, wp_ok, wp_st, ok_bind, ok_nx, ok_rt, EV.R.of_some, rof_if, nxQ_nx, nxQ_rt, wp_noEx, g_0, g_s, s_0, s_s, s_t2, bb, zz, tru_bl, noEx_j, isi_list, isi_int, isi_bool, q_ll, q_llb, lenOk_of, b_add, b_sub, b_mul, b_div, b_mod, b_pow, mulOk_r, mulOk_l, divOk_of, c_lt, c_le, c_gt, c_ge, c_eq, c_ne, c_in, c_ni, dIn_dic, x_lst, x_scr, x_dic, l_lst, l_scr, l_abs, l_int, l_list, l_tup, l_sorted, l_sortedk, i_int, q_lst, q_lstp, q_b, q_bp, q_tup, q_tupp, a_app, a_put, t_0, t_s, rng_of, li_zz, li_bb, li_clean, li_z, pr_zz, pr_bb, pr_clean, pr_z, ll_zz, ll_bb, ll_cleanO, ll_cleanZ, ll_z, clean, isZ, isZs, cleans, zzs, bbs, Fl.bb, dIn_li, dEq_li, dEq_pr, dEq_ll, dEq_int, taint, taints, li_taint, pr_taint, ll_taint, Fl.tt, li_len, pr_len, ll_len, keyOf, List.map_cons, List.map_nil, List.length_cons, List.length_nil, List.set_cons_zero, List.set_cons_succ, Option.map_some, hb, t16_6, t16_7, t16_13, k3, k6, k8]) ?_
  refine step (env' := [some s, some (.lst .z (li P)), some (.lst .z (li L2)), some (.lst .z (pr T)), v4, some (.lst .z (li R)), none, none, none, none, none, none]) (by simp [evSs, evS, evE.eq_1, evE.eq_2, evE.eq_3, evE.eq_4, evE.eq_5, evE.eq_6, evE.eq_7, evE.eq_8, evE.eq_9, evE.eq_10, evE.eq_11, evE.eq_12, evE.eq_13, evE.eq_14, evE.eq_15, evE.eq_16, evE.eq_17, evE.eq_18, evE.eq_19, evE.eq_20, evE.eq_21, evE.eq_22, evE.eq_23, evE.eq_24, evE.eq_27, evEs, evP, evO, evTo, evT, evAnd, evOr, evTA, evTO, evIt, wp_bind, wp_nx, wp_if, wp_ok, wp_st, ok_bind, ok_nx, ok_rt, EV.R.of_some, rof_if, nxQ_nx, nxQ_rt, wp_noEx, g_0, g_s, s_0, s_s, s_t2, bb, zz, tru_bl, noEx_j, isi_list, isi_int, isi_bool, q_ll, q_llb, lenOk_of, b_add, b_sub, b_mul, b_div, b_mod, b_pow, mulOk_r, mulOk_l, divOk_of, c_lt, c_le, c_gt, c_ge, c_eq, c_ne, c_in, c_ni, dIn_dic, x_lst, x_scr, x_dic, l_lst, l_scr, l_abs, l_int, l_list, l_tup, l_sorted, l_sortedk, i_int, q_lst, q_lstp, q_b, q_bp, q_tup, q_tupp, a_app, a_put, t_0, t_s, rng_of, li_zz, li_bb, li_clean, li_z, pr_zz, pr_bb, pr_clean, pr_z, ll_zz, ll_bb, ll_cleanO, ll_cleanZ, ll_z, clean, isZ, isZs, cleans, zzs, bbs, Fl.bb, dIn_li, dEq_li, dEq_pr, dEq_ll, dEq_int, taint, taints, li_taint, pr_taint, ll_taint, Fl.tt, li_len, pr_len, ll_len, keyOf, List.map_cons, List.map_nil, List.length_cons, List.length_nil, List.set_cons_zero, List.set_cons_succ, Option.map_some]) ?_
  refine step (env' := [some s, some (.lst .z (li P)), some (.lst .z (li L2)), some (.lst .z (pr T)), v4, some (.lst .z (li R)), some (.lst .o (ll .o G)), none, none, none, none, none]) (by simp [evSs, evS, evE.eq_1, evE.eq_2, evE.eq_3, evE.eq_4, evE.eq_5, evE.eq_6, evE.eq_7, evE.eq_8, evE.eq_9, evE.eq_10, evE.eq_11, evE.eq_12, evE.eq_13, evE.eq_14, evE.eq_15, evE.eq_16, evE.eq_17, evE.eq_18, evE.eq_19, evE.eq_20, evE.eq_21, evE.eq_22, evE.eq_23, evE.eq_24, evE.eq_27, evEs, evP, evO, evTo, evT, evAnd, evOr, evTA, evTO, evIt, wp_bind, wp_nx, wp_if, wp_ok, wp_st, ok_bind, ok_nx, ok_rt, EV.R.of_some, rof_if, nxQ_nx, nxQ_rt, wp_noEx, g_0, g_s, s_0, s_s, s_t2, bb, zz, tru_bl, noEx_j, isi_list, isi_int, isi_bool, q_ll, q_llb, lenOk_of, b_add, b_sub, b_mul, b_div, b_mod, b_pow, mulOk_r, mulOk_l, divOk_of, c_lt, c_le, c_gt, c_ge, c_eq, c_ne, c_in, c_ni, dIn_dic, x_lst, x_scr, x_dic, l_lst, l_scr, l_abs, l_int, l_list, l_tup, l_sorted, l_sortedk, i_int, q_lst, q_lstp, q_b, q_bp, q_tup, q_tupp, a_app, a_put, t_0, t_s, rng_of, li_zz, li_bb, li_clean, li_z, pr_zz, pr_bb, pr_clean, pr_z, ll_zz, ll_bb, ll_cleanO, ll_cleanZ, ll_z, clean, isZ, isZs, cleans, zzs, bbs, Fl.bb, dIn_li, dEq_li, dEq_pr, dEq_ll, dEq_int, taint, taints, li_taint, pr_taint, ll_taint, Fl.tt, li_len, pr_len, ll_len, keyOf, List.map_cons, List.map_nil, List.length_cons, List.length_nil, List.set_cons_zero, List.set_cons_succ, Option.map_some, t16_12, k9]) ?_
  refine step (env' := [some s, some (.lst .z (li P)), some (.lst .z (li L2)), some (.lst .z (pr T)), v4, some (.lst .z (li R)), some (.lst .z (ll .z G)), none, none, none, none, none]) (by simp [evSs, evS, evE.eq_1, evE.eq_2, evE.eq_3, evE.eq_4, evE.eq_5, evE.eq_6, evE.eq_7, evE.eq_8, evE.eq_9, evE.eq_10, evE.eq_11, evE.eq_12, evE.eq_13, evE.eq_14, evE.eq_15, evE.eq_16, evE.eq_17, evE.eq_18, evE.eq_19, evE.eq_20, evE.eq_21, evE.eq_22, evE.eq_23, evE.eq_24, evE.eq_27, evEs, evP, evO, evTo, evT, evAnd, evOr, evTA, evTO, evIt, wp_bind, wp_nx, wp_if, wp_ok, wp_st, ok_bind, ok_nx, ok_rt, EV.R.of_some, rof_if, nxQ_nx, nxQ_rt, wp_noEx, g_0, g_s, s_0, s_s, s_t2, bb, zz, tru_bl, noEx_j, isi_list, isi_int, isi_bool, q_ll, q_llb, lenOk_of, b_add, b_sub, b_mul, b_div, b_mod, b_pow, mulOk_r, mulOk_l, divOk_of, c_lt, c_le, c_gt, c_ge, c_eq, c_ne, c_in, c_ni, dIn_dic, x_lst, x_scr, x_dic, l_lst, l_scr, l_abs, l_int, l_list, l_tup, l_sorted, l_sortedk, i_int, q_lst, q_lstp, q_b, q_bp, q_tup, q_tupp, a_app, a_put, t_0, t_s, rng_of, li_zz, li_bb, li_clean, li_z, pr_zz, pr_bb, pr_clean, pr_z, ll_zz, ll_bb, ll_cleanO, ll_cleanZ, ll_z, clean, isZ, isZs, cleans, zzs, bbs, Fl.bb, dIn_li, dEq_li, dEq_pr, dEq_ll, dEq_int, taint, taints, li_taint, pr_taint, ll_taint, Fl.tt, li_len, pr_len, ll_len, keyOf, List.map_cons, List.map_nil, List.length_cons, List.length_nil, List.set_cons_zero, List.set_cons_succ, Option.map_some]) ?_
  refine step (env' := [some s, some (.lst .z (li P)), some (.lst .z (li L2)), some (.lst .z (pr T)), v4, some (.lst .z (li R)), some (.lst .z (ll .z G)), some (.lst .o (li P)), none, none, none, none]) (by simp [evSs, evS, evE.eq_1, evE.eq_2, evE.eq_3, evE.eq_4, evE.eq_5, evE.eq_6, evE.eq_7, evE.eq_8, evE.eq_9, evE.eq_10, evE.eq_11, evE.eq_12, evE.eq_13, evE.eq_14, evE.eq_15, evE.eq_16, evE.eq_17, evE.eq_18, evE.eq_19, evE.eq_20, evE.eq_21, evE.eq_22, evE.eq_23, evE.eq_24, evE.eq_27, evEs, evP, evO, evTo, evT, evAnd, evOr, evTA, evTO, evIt, wp_bind, wp_nx, wp_if, wp_ok, wp_st, ok_bind, ok_nx, ok_rt, EV.R.of_some, rof_if, nxQ_nx, nxQ_rt, wp_noEx, g_0, g_s, s_0, s_s, s_t2, bb, zz, tru_bl, noEx_j, isi_list, isi_int, isi_bool, q_ll, q_llb, lenOk_of, b_add, b_sub, b_mul, b_div, b_mod, b_pow, mulOk_r, mulOk_l, divOk_of, c_lt, c_le, c_gt, c_ge, c_eq, c_ne, c_in, c_ni, dIn_dic, x_lst, x_scr, x_dic, l_lst, l_scr, l_abs, l_int, l_list, l_tup, l_sorted, l_sortedk, i_int, q_lst, q_lstp, q_b, q_bp, q_tup, q_tupp, a_app, a_put, t_0, t_s, rng_of, li_zz, li_bb, li_clean, li_z, pr_zz, pr_bb, pr_clean, pr_z, ll_zz, ll_bb, ll_cleanO, ll_cleanZ, ll_z, clean, isZ, isZs, cleans, zzs, bbs, Fl.bb, dIn_li, dEq_li, dEq_pr, dEq_ll, dEq_int, taint, taints, li_taint, pr_taint, ll_taint, Fl.tt, li_len, pr_len, ll_len, keyOf, List.map_cons, List.map_nil, List.length_cons, List.length_nil, List.set_cons_zero, List.set_cons_succ, Option.map_some]) ?_
  refine step (env' := [some s, some (.lst .z (li P)), some (.lst .z (li L2)), some (.lst .z (pr T)), v4, some (.lst .z (li R)), some (.lst .z (ll .z G)), some (.lst .z (li P)), none, none, none, none]) (by simp [evSs, evS, evE.eq_1, evE.eq_2, evE.eq_3, evE.eq_4, evE.eq_5, evE.eq_6, evE.eq_7, evE.eq_8, evE.eq_9, evE.eq_10, evE.eq_11, evE.eq_12, evE.eq_13, evE.eq_14, evE.eq_15, evE.eq_16, evE.eq_17, evE.eq_18, evE.eq_19, evE.eq_20, evE.eq_21, evE.eq_22, evE.eq_23, evE.eq_24, evE.eq_27, evEs, evP, evO, evTo, evT, evAnd, evOr, evTA, evTO, evIt, wp_bind, wp_nx, wp_if, wp_ok, wp_st, ok_bind, ok_nx, ok_rt, EV.R.of_some, rof_if, nxQ_nx, nxQ_rt, wp_noEx, g_0, g_s, s_0, s_s, s_t2, bb, zz, tru_bl, noEx_j, isi_list, isi_int, isi_bool, q_ll, q_llb, lenOk_of, b_add, b_sub, b_mul, b_div, b_mod, b_pow, mulOk_r, mulOk_l, divOk_of, c_lt, c_le, c_gt, c_ge, c_eq, c_ne, c_in, c_ni, dIn_dic, x_lst, x_scr, x_dic, l_lst, l_scr, l_abs, l_int, l_list, l_tup, l_sorted, l_sortedk, i_int, q_lst, q_lstp, q_b, q_bp, q_tup, q_tupp, a_app, a_put, t_0, t_s, rng_of, li_zz, li_bb, li_clean, li_z, pr_zz, pr_bb, pr_clean, pr_z, ll_zz, ll_bb, ll_cleanO, ll_cleanZ, ll_z, clean, isZ, isZs, cleans, zzs, bbs, Fl.bb, dIn_li, dEq_li, dEq_pr, dEq_ll, dEq_int, taint, taints, li_taint, pr_taint, ll_taint, Fl.tt, li_len, pr_len, ll_len, keyOf, List.map_cons, List.map_nil, List.length_cons, List.length_nil, List.set_cons_zero, List.set_cons_succ, Option.map_some]) ?_
  refine step (env' := [some s, some (.lst .z (li P)), some (.lst .z (li L2)), some (.lst .z (pr T)), v4, some (.lst .z (li R)), some (.lst .z (ll .z G)), some (.lst .z (li P)), some (.lst .o (pr T)), none, none, none]) (by simp [evSs, evS, evE.eq_1, evE.eq_2, evE.eq_3, evE.eq_4, evE.eq_5, evE.eq_6, evE.eq_7, evE.eq_8, evE.eq_9, evE.eq_10, evE.eq_11, evE.eq_12, evE.eq_13, evE.eq_14, evE.eq_15, evE.eq_16, evE.eq_17, evE.eq_18, evE.eq_19, evE.eq_20, evE.eq_21, evE.eq_22, evE.eq_23, evE.eq_24, evE.eq_27, evEs, evP, evO, evTo, evT, evAnd, evOr, evTA, evTO, evIt, wp_bind, wp_nx, wp_if, wp_ok, wp_st, ok_bind, ok_nx, ok_rt, EV.R.of_some, rof_if, nxQ_nx, nxQ_rt, wp_noEx, g_0, g_s, s_0, s_s, s_t2, bb, zz, tru_bl, noEx_j, isi_list, isi_int, isi_bool, q_ll, q_llb, lenOk_of, b_add, b_sub, b_mul, b_div, b_mod, b_pow, mulOk_r, mulOk_l, divOk_of, c_lt, c_le, c_gt, c_ge, c_eq, c_ne, c_in, c_ni, dIn_dic, x_lst, x_scr, x_dic, l_lst, l_scr, l_abs, l_int, l_list, l_tup, l_sorted, l_sortedk, i_int, q_lst, q_lstp, q_b, q_bp, q_tup, q_tupp, a_app, a_put, t_0, t_s, rng_of, li_zz, li_bb, li_clean, li_z, pr_zz, pr_bb, pr_clean, pr_z, ll_zz, ll_bb, ll_cleanO, ll_cleanZ, ll_z, clean, isZ, isZs, cleans, zzs, bbs, Fl.bb, dIn_li, dEq_li, dEq_pr, dEq_ll, dEq_int, taint, taints, li_taint, pr_taint, ll_taint, Fl.tt, li_len, pr_len, ll_len, keyOf, List.map_cons, List.map_nil, List.length_cons, List.length_nil, List.set_cons_zero, List.set_cons_succ, Option.map_some]) ?_
  refine step (env' := [some s, some (.lst .z (li P)), some (.lst .z (li L2)), some (.lst .z (pr T)), v4, some (.lst .z (li R)), some (.lst .z (ll .z G)), some (.lst .z (li P)), some (.lst .z (pr T)), none, none, none]) (by simp [evSs, evS, evE.eq_1, evE.eq_2, evE.eq_3, evE.eq_4, evE.eq_5, evE.eq_6, evE.eq_7, evE.eq_8, evE.eq_9, evE.eq_10, evE.eq_11, evE.eq_12, evE.eq_13, evE.eq_14, evE.eq_15, evE.eq_16, evE.eq_17, evE.eq_18, evE.eq_19, evE.eq_20, evE.eq_21, evE.eq_22, evE.eq_23, evE.eq_24, evE.eq_27, evEs, evP, evO, evTo, evT, evAnd, evOr, evTA, evTO, evIt, wp_bind, wp_nx, wp_if, wp_ok, wp_st, ok_bind, ok_nx, ok_rt, EV.R.of_some, rof_if, nxQ_nx, nxQ_rt, wp_noEx, g_0, g_s, s_0, s_s, s_t2, bb, zz, tru_bl, noEx_j, isi_list, isi_int, isi_bool, q_ll, q_llb, lenOk_of, b_add, b_sub, b_mul, b_div, b_mod, b_pow, mulOk_r, mulOk_l, divOk_of, c_lt, c_le, c_gt, c_ge, c_eq, c_ne, c_in, c_ni, dIn_dic, x_lst, x_scr, x_dic, l_lst, l_scr, l_abs, l_int, l_list, l_tup, l_sorted, l_sortedk, i_int, q_lst, q_lstp, q_b, q_bp, q_tup, q_tupp, a_app, a_put, t_0, t_s, rng_of, li_zz, li_bb, li_clean, li_z, pr_zz, pr_bb, pr_clean, pr_z, ll_zz, ll_bb, ll_cleanO, ll_cleanZ, ll_z, clean, isZ, isZs, cleans, zzs, bbs, Fl.bb, dIn_li, dEq_li, dEq_pr, dEq_ll, dEq_int, taint, taints, li_taint, pr_taint, ll_taint, Fl.tt, li_len, pr_len, ll_len, keyOf, List.map_cons, List.map_nil, List.length_cons, List.length_nil, List.set_cons_zero, List.set_cons_succ, Option.map_some]) ?_
  refine step (env' := [some s, some (.lst .z (li P)), some (.lst .z (li L2)), some (.lst .z (pr T)), v4, some (.lst .z (li R)), some (.lst .z (ll .z G)), some (.lst .z (li P)), some (.lst .z (pr T)), some (.lst .o (ll .o G)), none, none]) (by simp [evSs, evS, evE.eq_1, evE.eq_2, evE.eq_3, evE.eq_4, evE.eq_5, evE.eq_6, evE.eq_7, evE.eq_8, evE.eq_9, evE.eq_10, evE.eq_11, evE.eq_12, evE.eq_13, evE.eq_14, evE.eq_15, evE.eq_16, evE.eq_17, evE.eq_18, evE.eq_19, evE.eq_20, evE.eq_21, evE.eq_22, evE.eq_23, evE.eq_24, evE.eq_27, evEs, evP, evO, evTo, evT, evAnd, evOr, evTA, evTO, evIt, wp_bind, wp_nx, wp_if, wp_ok, wp_st, ok_bind, ok_nx, ok_rt, EV.R.of_some, rof_if, nxQ_nx, nxQ_rt, wp_noEx, g_0, g_s, s_0, s_s, s_t2, bb, zz, tru_bl, noEx_j, isi_list, isi_int, isi_bool, q_ll, q_llb, lenOk_of, b_add, b_sub, b_mul, b_div, b_mod, b_pow, mulOk_r, mulOk_l, divOk_of, c_lt, c_le, c_gt, c_ge, c_eq, c_ne, c_in, c_ni, dIn_dic, x_lst, x_scr, x_dic, l_lst, l_scr, l_abs, l_int, l_list, l_tup, l_sorted, l_sortedk, i_int, q_lst, q_lstp, q_b, q_bp, q_tup, q_tupp, a_app, a_put, t_0, t_s, rng_of, li_zz, li_bb, li_clean, li_z, pr_zz, pr_bb, pr_clean, pr_z, ll_zz, ll_bb, ll_cleanO, ll_cleanZ, ll_z, clean, isZ, isZs, cleans, zzs, bbs, Fl.bb, dIn_li, dEq_li, dEq_pr, dEq_ll, dEq_int, taint, taints, li_taint, pr_taint, ll_taint, Fl.tt, li_len, pr_len, ll_len, keyOf, List.map_cons, List.map_nil, List.length_cons, List.length_nil, List.set_cons_zero, List.set_cons_succ, Option.map_some, t16_3, k10]) ?_
  refine step (env' := [some s, some (.lst .z (li P)), some (.lst .z (li L2)), some (.lst .z (pr T)), v4, some (.lst .z (li R)), some (.lst .z (ll .z G)), some (.lst .z (li P)), some (.lst .z (pr T)), some (.lst .o (ll .o G)), none, none]) (by simp [evSs, evS, evE.eq_1, evE.eq_2, evE.eq_3, evE.eq_4, evE.eq_5, evE.eq_6, evE.eq_7, evE.eq_8, evE.eq_9, evE.eq_10, evE.eq_11, evE.eq_12, evE.eq_13, evE.eq_14, evE.eq_15, evE.eq_16, evE.eq_17, evE.eq_18, evE.eq_19, evE.eq_20, evE.eq_21, evE.eq_22, evE.eq_23, evE.eq_24, evE.eq_27, evEs, evP, evO, evTo, evT, evAnd, evOr, evTA, evTO, evIt, wp_bind, wp_nx, wp_if, wp_ok, wp_st, ok_bind, ok_nx, ok_rt, EV.R.of_some, rof_if, nxQ_nx, nxQ_rt, wp_noEx, g_0, g_s, s_0, s_s, s_t2, bb, zz, tru_bl, noEx_j, isi_list, isi_int, isi_bool, q_ll, q_llb, lenOk_of, b_add, b_sub, b_mul, b_div, b_mod, b_pow, mulOk_r, mulOk_l, divOk_of, c_lt, c_le, c_gt, c_ge, c_eq, c_ne, c_in, c_ni, dIn_dic, x_lst, x_scr, x_dic, l_lst, l_scr, l_abs, l_int, l_list, l_tup, l_sorted, l_sortedk, i_int, q_lst, q_lstp, q_b, q_bp, q_tup, q_tupp, a_app, a_put, t_0, t_s, rng_of, li_zz, li_bb, li_clean, li_z, pr_zz, pr_bb, pr_clean, pr_z, ll_zz, ll_bb, ll_cleanO, ll_cleanZ, ll_z, clean, isZ, isZs, cleans, zzs, bbs, Fl.bb, dIn_li, dEq_li, dEq_pr, dEq_ll, dEq_int, taint, taints, li_taint, pr_taint, ll_taint, Fl.tt, li_len, pr_len, ll_len, keyOf, List.map_cons, List.map_nil, List.length_cons, List.length_nil, List.set_cons_zero, List.set_cons_succ, Option.map_some, t16_14, k12]) ?_
  refine step (env' := [some s, some (.lst .z (li P)), some (.lst .z (li L2)), some (.lst .z (pr T)), v4, some (.lst .z (li R)), some (.lst .z (ll .z G)), some (.lst .z (li P)), some (.lst .z (pr T)), some (.lst .o (ll .o (G.map fun g => g ++ [5000]))), none, none]) (by simp [evSs, evS, evE.eq_1, evE.eq_2, evE.eq_3, evE.eq_4, evE.eq_5, evE.eq_6, evE.eq_7, evE.eq_8, evE.eq_9, evE.eq_10, evE.eq_11, evE.eq_12, evE.eq_13, evE.eq_14, evE.eq_15, evE.eq_16, evE.eq_17, evE.eq_18, evE.eq_19, evE.eq_20, evE.eq_21, evE.eq_22, evE.eq_23, evE.eq_24, evE.eq_27, evEs, evP, evO, evTo, evT, evAnd, evOr, evTA, evTO, evIt, wp_bind, wp_nx, wp_if, wp_ok, wp_st, ok_bind, ok_nx, ok_rt, EV.R.of_some, rof_if, nxQ_nx, nxQ_rt, wp_noEx, g_0, g_s, s_0, s_s, s_t2, bb, zz, tru_bl, noEx_j, isi_list, isi_int, isi_bool, q_ll, q_llb, lenOk_of, b_add, b_sub, b_mul, b_div, b_mod, b_pow, mulOk_r, mulOk_l, divOk_of, c_lt, c_le, c_gt, c_ge, c_eq, c_ne, c_in, c_ni, dIn_dic, x_lst, x_scr, x_dic, l_lst, l_scr, l_abs, l_int, l_list, l_tup, l_sorted, l_sortedk, i_int, q_lst, q_lstp, q_b, q_bp, q_tup, q_tupp, a_app, a_put, t_0, t_s, rng_of, li_zz, li_bb, li_clean, li_z, pr_zz, pr_bb, pr_clean, pr_z, ll_zz, ll_bb, ll_cleanO, ll_cleanZ, ll_z, clean, isZ, isZs, cleans, zzs, bbs, Fl.bb, dIn_li, dEq_li, dEq_pr, dEq_ll, dEq_int, taint, taints, li_taint, pr_taint, ll_taint, Fl.tt, li_len, pr_len, ll_len, keyOf, List.map_cons, List.map_nil, List.length_cons, List.length_nil, List.set_cons_zero, List.set_cons_succ, Option.map_some, each_ll hgl]) ?_
  refine step (env' := [some s, some (.lst .z (li P)), some (.lst .z (li L2)), some (.lst .z (pr T)), v4, some (.lst .z (li R)), some (.lst .z (ll .z G)), some (.lst .z (li P)), some (.lst .z (pr T)), some (.lst .o (ll .o ((G.map fun g => g ++ [5000]) ++ [[5001]]))), none, none]) (by
    have e : D.lst .o [D.int 5001] = .lst .o (li [5001]) := rfl
    have hs2 : G.length < sizeLine := by simpa using hs
    simp [evSs, evS, evE.eq_1, evE.eq_2, evE.eq_3, evE.eq_4, evE.eq_5, evE.eq_6, evE.eq_7, evE.eq_8, evE.eq_9, evE.eq_10, evE.eq_11, evE.eq_12, evE.eq_13, evE.eq_14, evE.eq_15, evE.eq_16, evE.eq_17, evE.eq_18, evE.eq_19, evE.eq_20, evE.eq_21, evE.eq_22, evE.eq_23, evE.eq_24, evE.eq_27, evEs, evP, evO, evTo, evT, evAnd, evOr, evTA, evTO, evIt, wp_bind, wp_nx, wp_if, wp_ok, wp_st, ok_bind, ok_nx, ok_rt, EV.R.of_some, rof_if, nxQ_nx, nxQ_rt, wp_noEx, g_0, g_s, s_0, s_s, s_t2, bb, zz, tru_bl, noEx_j, isi_list, isi_int, isi_bool, q_ll, q_llb, lenOk_of, b_add, b_sub, b_mul, b_div, b_mod, b_pow, mulOk_r, mulOk_l, divOk_of, c_lt, c_le, c_gt, c_ge, c_eq, c_ne, c_in, c_ni, dIn_dic, x_lst, x_scr, x_dic, l_lst, l_scr, l_abs, l_int, l_list, l_tup, l_sorted, l_sortedk, i_int, q_lst, q_lstp, q_b, q_bp, q_tup, q_tupp, a_app, a_put, t_0, t_s, rng_of, li_zz, li_bb, li_clean, li_z, pr_zz, pr_bb, pr_clean, pr_z, ll_zz, ll_bb, ll_cleanO, ll_cleanZ, ll_z, clean, isZ, isZs, cleans, zzs, bbs, Fl.bb, dIn_li, dEq_li, dEq_pr, dEq_ll, dEq_int, taint, taints, li_taint, pr_taint, ll_taint, Fl.tt, li_len, pr_len, ll_len, keyOf, List.map_cons, List.map_nil, List.length_cons, List.length_nil, List.set_cons_zero, List.set_cons_succ, Option.map_some, e, hs2, ← ll_app]) ?_
  refine step (env' := [some s, some (.lst .z (li P)), some (.lst .z (li L2)), some (.lst .z (pr T)), v4, some (.lst .z (li R)), some (.lst .z (ll .z G)), some (.lst .z (li P)), some (.lst .z (pr T)), some (.lst .z (ll .z ((G.map fun g => g ++ [5000]) ++ [[5001]]))), none, none]) (by simp [evSs, evS, evE.eq_1, evE.eq_2, evE.eq_3, evE.eq_4, evE.eq_5, evE.eq_6, evE.eq_7, evE.eq_8, evE.eq_9, evE.eq_10, evE.eq_11, evE.eq_12, evE.eq_13, evE.eq_14, evE.eq_15, evE.eq_16, evE.eq_17, evE.eq_18, evE.eq_19, evE.eq_20, evE.eq_21, evE.eq_22, evE.eq_23, evE.eq_24, evE.eq_27, evEs, evP, evO, evTo, evT, evAnd, evOr, evTA, evTO, evIt, wp_bind, wp_nx, wp_if, wp_ok, wp_st, ok_bind, ok_nx, ok_rt, EV.R.of_some, rof_if, nxQ_nx, nxQ_rt, wp_noEx, g_0, g_s, s_0, s_s, s_t2, bb, zz, tru_bl, noEx_j, isi_list, isi_int, isi_bool, q_ll, q_llb, lenOk_of, b_add, b_sub, b_mul, b_div, b_mod, b_pow, mulOk_r, mulOk_l, divOk_of, c_lt, c_le, c_gt, c_ge, c_eq, c_ne, c_in, c_ni, dIn_dic, x_lst, x_scr, x_dic, l_lst, l_scr, l_abs, l_int, l_list, l_tup, l_sorted, l_sortedk, i_int, q_lst, q_lstp, q_b, q_bp, q_tup, q_tupp, a_app, a_put, t_0, t_s, rng_of, li_zz, li_bb, li_clean, li_z, pr_zz, pr_bb, pr_clean, pr_z, ll_zz, ll_bb, ll_cleanO, ll_cleanZ, ll_z, clean, isZ, isZs, cleans, zzs, bbs, Fl.bb, dIn_li, dEq_li, dEq_pr, dEq_ll, dEq_int, taint, taints, li_taint, pr_taint, ll_taint, Fl.tt, li_len, pr_len, ll_len, keyOf, List.map_cons, List.map_nil, List.length_cons, List.length_nil, List.set_cons_zero, List.set_cons_succ, Option.map_some]) ?_
  refine step (env' := [some s, some (.lst .z (li P)), some (.lst .z (li L2)), some (.lst .z (pr T)), v4, some (.lst .z (li R)), some (.lst .z (ll .z G)), some (.lst .z (li P)), some (.lst .z (pr T)), some (.lst .z (ll .z ((G.map fun g => g ++ [5000]) ++ [[5001]]))), none, none]) (by simp [evSs, evS, evE.eq_1, evE.eq_2, evE.eq_3, evE.eq_4, evE.eq_5, evE.eq_6, evE.eq_7, evE.eq_8, evE.eq_9, evE.eq_10, evE.eq_11, evE.eq_12, evE.eq_13, evE.eq_14, evE.eq_15, evE.eq_16, evE.eq_17, evE.eq_18, evE.eq_19, evE.eq_20, evE.eq_21, evE.eq_22, evE.eq_23, evE.eq_24, evE.eq_27, evEs, evP, evO, evTo, evT, evAnd, evOr, evTA, evTO, evIt, wp_bind, wp_nx, wp_if, wp_ok, wp_st, ok_bind, ok_nx, ok_rt, EV.R.of_some, rof_if, nxQ_nx, nxQ_rt, wp_noEx, g_0, g_s, s_0, s_s, s_t2, bb, zz, tru_bl, noEx_j, isi_list, isi_int, isi_bool, q_ll, q_llb, lenOk_of, b_add, b_sub, b_mul, b_div, b_mod, b_pow, mulOk_r, mulOk_l, divOk_of, c_lt, c_le, c_gt, c_ge, c_eq, c_ne, c_in, c_ni, dIn_dic, x_lst, x_scr, x_dic, l_lst, l_scr, l_abs, l_int, l_list, l_tup, l_sorted, l_sortedk, i_int, q_lst, q_lstp, q_b, q_bp, q_tup, q_tupp, a_app, a_put, t_0, t_s, rng_of, li_zz, li_bb, li_clean, li_z, pr_zz, pr_bb, pr_clean, pr_z, ll_zz, ll_bb, ll_cleanO, ll_cleanZ, ll_z, clean, isZ, isZs, cleans, zzs, bbs, Fl.bb, dIn_li, dEq_li, dEq_pr, dEq_ll, dEq_int, taint, taints, li_taint, pr_taint, ll_taint, Fl.tt, li_len, pr_len, ll_len, keyOf, List.map_cons, List.map_nil, List.length_cons, List.length_nil, List.set_cons_zero, List.set_cons_succ, Option.map_some, t16_3, t16_14, k11, k13]) ?_
  refine step_fr (ds := ll .z [R, [], P, cutD R none (some (-1))]) ?_ ?_
  · rw [evIt]
    have hq : seqOf false (.lst .o [.lst .z (li R), .lst .o [], .lst .z (li P), .lst .o (cutD (li R) none (some (-1)))]) = some (ll .z [R, [], P, cutD R none (some (-1))]) := by
      have c1 := cut_li (R := R) (lo := none) (hi := some (-1))
      rw [c1]
      simp [seqOf, cleans, clean, li_clean, zzs, zz, li_zz, ll]
      rfl
    have hd : dCut (.lst .z (li R)) none (some (-1)) = some (.lst .o (cutD (li R) none (some (-1)))) := rfl
    simp [evSs, evS, evE.eq_1, evE.eq_2, evE.eq_3, evE.eq_4, evE.eq_5, evE.eq_6, evE.eq_7, evE.eq_8, evE.eq_9, evE.eq_10, evE.eq_11, evE.eq_12, evE.eq_13, evE.eq_14, evE.eq_15, evE.eq_16, evE.eq_17, evE.eq_18, evE.eq_19, evE.eq_20, evE.eq_21, evE.eq_22, evE.eq_23, evE.eq_24, evE.eq_27, evEs, evP, evO, evTo, evT, evAnd, evOr, evTA, evTO, evIt, wp_bind, wp_nx, wp_if, wp_ok, wp_st, ok_bind, ok_nx, ok_rt, EV.R.of_some, rof_if, nxQ_nx, nxQ_rt, wp_noEx, g_0, g_s, s_0, s_s, s_t2, bb, zz, tru_bl, noEx_j, isi_list, isi_int, isi_bool, q_ll, q_llb, lenOk_of, b_add, b_sub, b_mul, b_div, b_mod, b_pow, mulOk_r, mulOk_l, divOk_of, c_lt, c_le, c_gt, c_ge, c_eq, c_ne, c_in, c_ni, dIn_dic, x_lst, x_scr, x_dic, l_lst, l_scr, l_abs, l_int, l_list, l_tup, l_sorted, l_sortedk, i_int, q_lst, q_lstp, q_b, q_bp, q_tup, q_tupp, a_app, a_put, t_0, t_s, rng_of, li_zz, li_bb, li_clean, li_z, pr_zz, pr_bb, pr_clean, pr_z, ll_zz, ll_bb, ll_cleanO, ll_cleanZ, ll_z, clean, isZ, isZs, cleans, zzs, bbs, Fl.bb, dIn_li, dEq_li, dEq_pr, dEq_ll, dEq_int, taint, taints, li_taint, pr_taint, ll_taint, Fl.tt, li_len, pr_len, ll_len, keyOf, List.map_cons, List.map_nil, List.length_cons, List.length_nil, List.set_cons_zero, List.set_cons_succ, Option.map_some, hd, hq]
  refine wp_for (J16 s (.lst .z (li P)) (.lst .z (li L2)) (.lst .z (pr T)) v4 (some (.lst .z (li R))) (some (.lst .z (ll .z G))) (some (.lst .z (li P))) (some (.lst .z (pr T))) (some (.lst .z (ll .z ((G.map fun g => g ++ [5000]) ++ [[5001]]))))) ⟨_, rfl⟩ ?_ ?_
  · rintro i d e hi ⟨v, rfl⟩
    rw [ll_get] at hi
    cases hx : [R, [], P, cutD R none (some (-1))][i]? with
    | none => rw [hx] at hi; cases hi
    | some X =>
      rw [hx] at hi
      cases hi
      have hm : X ∈ [R, [], P, cutD R none (some (-1))] := List.mem_of_getElem? hx
      have hXX : X.Nodup ∧ X.length ≤ 14 := by
        simp only [List.mem_cons, List.mem_nil_iff, or_false] at hm
        rcases hm with rfl | rfl | rfl | rfl
        · exact ⟨hR, hRl⟩
        · exact ⟨List.nodup_nil, by simp⟩
        · exact ⟨hn, hP⟩
        · exact ⟨hR.sublist cut_sub, Nat.le_trans cut_sub.length_le hRl⟩
      have kb := hbars X hXX.1 hXX.2
      simp [evSs, evS, evE.eq_1, evE.eq_2, evE.eq_3, evE.eq_4, evE.eq_5, evE.eq_6, evE.eq_7, evE.eq_8, evE.eq_9, evE.eq_10, evE.eq_11, evE.eq_12, evE.eq_13, evE.eq_14, evE.eq_15, evE.eq_16, evE.eq_17, evE.eq_18, evE.eq_19, evE.eq_20, evE.eq_21, evE.eq_22, evE.eq_23, evE.eq_24, evE.eq_27, evEs, evP, evO, evTo, evT, evAnd, evOr, evTA, evTO, evIt, wp_bind, wp_nx, wp_if, wp_ok, wp_st, ok_bind, ok_nx, ok_rt, EV.R.of_some, rof_if, nxQ_nx, nxQ_rt, wp_noEx, g_0, g_s, s_0, s_s, s_t2, bb, zz, tru_bl, noEx_j, isi_list, isi_int, isi_bool, q_ll, q_llb, lenOk_of, b_add, b_sub, b_mul, b_div, b_mod, b_pow, mulOk_r, mulOk_l, divOk_of, c_lt, c_le, c_gt, c_ge, c_eq, c_ne, c_in, c_ni, dIn_dic, x_lst, x_scr, x_dic, l_lst, l_scr, l_abs, l_int, l_list, l_tup, l_sorted, l_sortedk, i_int, q_lst, q_lstp, q_b, q_bp, q_tup, q_tupp, a_app, a_put, t_0, t_s, rng_of, li_zz, li_bb, li_clean, li_z, pr_zz, pr_bb, pr_clean, pr_z, ll_zz, ll_bb, ll_cleanO, ll_cleanZ, ll_z, clean, isZ, isZs, cleans, zzs, bbs, Fl.bb, dIn_li, dEq_li, dEq_pr, dEq_ll, dEq_int, taint, taints, li_taint, pr_taint, ll_taint, Fl.tt, li_len, pr_len, ll_len, keyOf, List.map_cons, List.map_nil, List.length_cons, List.length_nil, List.set_cons_zero, List.set_cons_succ, Option.map_some, t16_15, kb]
      exact post_nx ⟨_, rfl⟩
  · rintro e ⟨v, rfl⟩
    rw [nxQ_nx]
    simp [evSs, evS, evE.eq_1, evE.eq_2, evE.eq_3, evE.eq_4, evE.eq_5, evE.eq_6, evE.eq_7, evE.eq_8, evE.eq_9, evE.eq_10, evE.eq_11, evE.eq_12, evE.eq_13, evE.eq_14, evE.eq_15, evE.eq_16, evE.eq_17, evE.eq_18, evE.eq_19, evE.eq_20, evE.eq_21, evE.eq_22, evE.eq_23, evE.eq_24, evE.eq_27, evEs, evP, evO, evTo, evT, evAnd, evOr, evTA, evTO, evIt, wp_bind, wp_nx, wp_if, wp_ok, wp_st, ok_bind, ok_nx, ok_rt, EV.R.of_some, rof_if, nxQ_nx, nxQ_rt, wp_noEx, g_0, g_s, s_0, s_s, s_t2, bb, zz, tru_bl, noEx_j, isi_list, isi_int, isi_bool, q_ll, q_llb, lenOk_of, b_add, b_sub, b_mul, b_div, b_mod, b_pow, mulOk_r, mulOk_l, divOk_of, c_lt, c_le, c_gt, c_ge, c_eq, c_ne, c_in, c_ni, dIn_dic, x_lst, x_scr, x_dic, l_lst, l_scr, l_abs, l_int, l_list, l_tup, l_sorted, l_sortedk, i_int, q_lst, q_lstp, q_b, q_bp, q_tup, q_tupp, a_app, a_put, t_0, t_s, rng_of, li_zz, li_bb, li_clean, li_z, pr_zz, pr_bb, pr_clean, pr_z, ll_zz, ll_bb, ll_cleanO, ll_cleanZ, ll_z, clean, isZ, isZs, cleans, zzs, bbs, Fl.bb, dIn_li, dEq_li, dEq_pr, dEq_ll, dEq_int, taint, taints, li_taint, pr_taint, ll_taint, Fl.tt, li_len, pr_len, ll_len, keyOf, List.map_cons, List.map_nil, List.length_cons, List.length_nil, List.set_cons_zero, List.set_cons_succ, Option.map_some]
theorem math1 (ns : List Int) (_ : ns.length ≤ 63) : (tabR drs 16).sem [.scr ns] = .ok (.bl true) := law_ok rfl rfl fun k hk => cell_scr ns k hk
theorem math2 (ns : List Int) (_ : ns.length ≤ 63) : (tabR drs 16).sem [.lst .z (ns.map .int)] = .ok (.bl true) :=
  law_ok (s := .lst .z (li ns)) (by simp [isZ, li_z]) (by simp [bb, li_bb, Fl.bb]) fun k hk => cell_lst ns k hk
end K36
namespace K36
open PySem PySem.Spec PyProof.Rows L2 EV
theorem finish {P : Program} {w : World} {K : PySem.W.Frag} {h : Heap} {mg : Str → Option Value} {f : Addr} (X : K.In h) (G : h.Ns mainGlobals mg) (hfa : mg ("law" : Str) = some (.ref f)) (c : He.SaysD fa fn K) :
    ∃ fd : FuncData, (∀ (s : Shared) (v : Value), BindsTo s fd ⟨[v], []⟩ [("_law_script", v)]) ∧ ∀ base : Heap, K.In base → base.Ns mainGlobals mg → FnOk P w K mg base CX0 17 f fd ["_law_script"] (spLaw K) := by
  obtain ⟨f2, fd, F, m⟩ := said_def c X G (i := 0) (d := dr16) (st := top 19) rfl rfl
  have e := hfa.symm.trans (show mg ("law" : Str) = some (.ref f2) from m)
  cases e
  have b := bd16 F
  refine ⟨fd, fun s v => ?_, fun base _ _ => ?_⟩
  · obtain ⟨oc, od, kV, doc, pm, an, cdv, ct, osl, rfl, lk, hcd⟩ := F.ex
    exact .of_eq rfl
  · exact FnOk.imp (EV.law_ok (XR := fun _ _ _ _ => False) ok (said_free c X G) (facts c X G) F) (law_imp math1 math2)
end K36
open PySem PySem.W PySem.Calls PyProof.Rows
theorem PySem.Challenge.cw_comesapart_k36_odd_pieces_and_bars_holds : PySem.Challenge.rw_comesapart_k36_odd_pieces_and_bars.Holds := by
  w_on; o_law
  refine HandSHeadRun.head_any (r := K36.R) (q := view K36.R.prog [19]) (H := K36.hk) (ob := K36.ob) (M := 2000) (loose := K36.others) (d := HandSHeadRun.topDef K36.R.prog 19) (kwd := []) K36.ob_eq
    (by kernel_rfl) (fun s => by kernel_rfl) K36.run (by kernel_rfl) (by kernel_rfl) (by kernel_rfl) (by rfl) (by first | assumption | decide +kernel) (by decide +kernel) ⟨rfl, rfl, rfl, rfl, rfl, by decide +kernel⟩ ?hw ?hc
  case hw => w_witness2
  case hc =>
    refine L2.walk_ofE (l := PySem.Challenge.rw_comesapart_k36_odd_pieces_and_bars) (n := 63) (k := 17) (x := "_law_script") (CX := L2.CX0) rfl (by decide) (by kernel_rfl) ⟨rfl, by decide, by decide⟩ ?F (fun _ _ _ _ z => z)
    intro w mg fa h Y G hmg0
    obtain ⟨K, KX, c⟩ := Y
    have hmg : mg ("law" : PySem.Str) = some (.ref fa) := by
      have e : (HandSHeadRun.topDef K36.R.prog 19).name = ("law" : PySem.Str) := by kernel_rfl
      rw [← e]
      exact hmg0
    obtain ⟨fd, hb, hF⟩ := K36.finish (P := (PySem.Challenge.rw_comesapart_k36_odd_pieces_and_bars).prog) (w := w) KX G hmg c
    exact ⟨K, fd, EV.spLaw K, KX, hb, fun H a ns hl _ hS => ⟨a, ns, rfl, hS, hl, fun _ => rfl⟩, hF⟩
