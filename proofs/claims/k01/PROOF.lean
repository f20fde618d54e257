import PyProof.Rows.All
import Wide.All
import OpenK.AllK
import Wide.FinOn
import HandS.ForMost
import HandS.Property
import HandS.IsInst
import HandS.Wide
import HandS.OwnEq
import HandS.MakeKwOnly
import HandS.TupMul
import HandS.TupAny
import HandS.Flow
import HandS.Codes
import HandS.More
import KE.GoesEnum
import HandS.Iter
import KE.GoesMore
import KE.KDictZip
import KE.KDictItemsList
import HandS.Dict
import HandS.Zip
import HandS.List
import HandS.Conv
import KE.KDictPairs
import KE.KEqDict
import HandS.Style
import HandS.New0
import HandS.ListItems
import HandS.Small
import HandS.SetFor
import HandS.SortInts
import HandS.DictComp
import HandS.Defaults
import HandS.Sort
import KE.DataMinMax
import PyProof.Claim2Refuses
import PyProof.DictDisplay
import PySem.Challenge.RW_samerun_k01_whole_machine
set_option Elab.async false
set_option linter.all false
set_option maxRecDepth 90001
set_option maxHeartbeats 3900001
set_option exponentiation.threshold 2000
/-! A functional reading: values whose tuples are plain data, a numbered store of what can change; each rule of the hand layer as a function. -/
namespace AL
open PySem L2

inductive D where
  | non | bl (b : Bool) | int (i : Int) | str (x : Str) | tup (ds : List D) | ref (n : Nat) | con (v : V)
  /-- a tuple whose object is known to have no dict -/
  | tpc (ds : List D)

inductive Cell where
  | lst (ds : List D) | fro (ds : List D) | ins (c : Nat) (fs : List (Str × D)) | dct (kds : List (Key × D)) | fdc (kds : List (Key × D)) | rng (i j : Int)

def Mu : Cell → Prop
  | .fro _ => False
  | _ => True
/-- what may be written: not what is locked -/
def Wr : Cell → Prop
  | .fro _ => False
  | .fdc _ => False
  | .rng _ _ => False
  | _ => True
theorem Wr.mu {c : Cell} (h : Wr c) : Mu c := by
  cases c with
  | fro _ => exact h.elim
  | _ => trivial

structure AS where
  nx : Nat
  mem : Nat → Option Cell
def AS.set (M : AS) (n : Nat) (c : Cell) : AS := ⟨M.nx, fun m => if m = n then some c else M.mem m⟩
def AS.new (M : AS) (c : Cell) : AS := ⟨M.nx + 1, fun m => if m = M.nx then some c else M.mem m⟩
theorem AS.set_same {M : AS} {n : Nat} {c : Cell} : (M.set n c).mem n = some c := if_pos rfl
theorem AS.set_ne {M : AS} {n m : Nat} {c : Cell} (h : m ≠ n) : (M.set n c).mem m = M.mem m := if_neg h
theorem AS.new_same {M : AS} {c : Cell} : (M.new c).mem M.nx = some c := if_pos rfl
theorem AS.new_ne {M : AS} {m : Nat} {c : Cell} (h : m ≠ M.nx) : (M.new c).mem m = M.mem m := if_neg h

abbrev Rho := Nat → Option Addr

mutual
inductive Rep (K : PySem.W.Frag) (ρ : Rho) (H : Hp) : V → D → Prop
  | non : Rep K ρ H .non .non
  | bl (b : Bool) : Rep K ρ H (.bl b) (.bl b)
  | int (i : Int) : Rep K ρ H (.int i) (.int i)
  | str (x : Str) : Rep K ρ H (.str x) (.str x)
  | tup {a : Addr} {vs : List V} {ds : List D} : SqT K H a vs → Reps K ρ H vs ds → Rep K ρ H (.ref a) (.tup ds)
  | ref {a : Addr} {n : Nat} : ρ n = some a → Rep K ρ H (.ref a) (.ref n)
  | con (v : V) : Rep K ρ H v (.con v)
  | tpc {a : Addr} {vs : List V} {ds : List D} {o : Obj} : H a = some (.frz o (.tup vs)) → o.dict = none → Reps K ρ H vs ds → Rep K ρ H (.ref a) (.tpc ds)
inductive Reps (K : PySem.W.Frag) (ρ : Rho) (H : Hp) : List V → List D → Prop
  | nil : Reps K ρ H [] []
  | cons {v : V} {vs : List V} {d : D} {ds : List D} : Rep K ρ H v d → Reps K ρ H vs ds → Reps K ρ H (v :: vs) (d :: ds)
end

structure Ext (ρ : Rho) (H : Hp) (ρ' : Rho) (H' : Hp) : Prop where
  re : ∀ n a, ρ n = some a → ρ' n = some a
  tu : ∀ a xs, H a = some (.tup xs) → H' a = some (.tup xs)
  fz : ∀ a o u, H a = some (.frz o u) → H' a = some (.frz o u)
theorem Ext.refl (ρ : Rho) (H : Hp) : Ext ρ H ρ H := ⟨fun _ _ h => h, fun _ _ h => h, fun _ _ _ h => h⟩
theorem Ext.trans {ρ ρ1 ρ2 : Rho} {H H1 H2 : Hp} (a : Ext ρ H ρ1 H1) (b : Ext ρ1 H1 ρ2 H2) : Ext ρ H ρ2 H2 :=
  ⟨fun _ _ h => b.re _ _ (a.re _ _ h), fun _ _ h => b.tu _ _ (a.tu _ _ h), fun _ _ _ h => b.fz _ _ _ (a.fz _ _ _ h)⟩
theorem Ext.same {ρ : Rho} {H H' : Hp} (s : Same H H') : Ext ρ H ρ H' := ⟨fun _ _ h => h, fun _ _ h => s _ _ h, fun _ _ _ h => s _ _ h⟩
/-- .. but what is locked may be unlocked -/
def seqO : HO → Prop
  | .lst _ => True
  | .tup _ => True
  | _ => False
structure ExtW (ρ : Rho) (H : Hp) (ρ' : Rho) (H' : Hp) : Prop where
  re : ∀ n a, ρ n = some a → ρ' n = some a
  tu : ∀ a xs, H a = some (.tup xs) → H' a = some (.tup xs)
  fz : ∀ a o u, seqO u → H a = some (.frz o u) → H' a = some (.frz o u)
theorem Ext.w {ρ ρ' : Rho} {H H' : Hp} (e : Ext ρ H ρ' H') : ExtW ρ H ρ' H' := ⟨e.re, e.tu, fun a o u _ h => e.fz a o u h⟩
section
variable {K : PySem.W.Frag} {cl : Nat → Addr} {ρ ρ' : Rho} {H H' : Hp}
theorem ExtW.sqT (e : ExtW ρ H ρ' H') {a : Addr} {vs : List V} (h : SqT K H a vs) : SqT K H' a vs := by
  rcases h with (h | ⟨o, h⟩) | h
  · exact .inl (.inl (e.tu _ _ h))
  · exact .inl (.inr ⟨o, e.fz _ _ _ trivial h⟩)
  · exact .inr h
theorem Ext.sqT (e : Ext ρ H ρ' H') {a : Addr} {vs : List V} (h : SqT K H a vs) : SqT K H' a vs := by
  rcases h with (h | ⟨o, h⟩) | h
  · exact .inl (.inl (e.tu _ _ h))
  · exact .inl (.inr ⟨o, e.fz _ _ _ h⟩)
  · exact .inr h
mutual
theorem Rep.ext (e : ExtW ρ H ρ' H') : ∀ (d : D) (v : V), Rep K ρ H v d → Rep K ρ' H' v d
  | .non, _, h => by cases h; exact .non
  | .bl b, _, h => by cases h; exact .bl b
  | .int i, _, h => by cases h; exact .int i
  | .str x, _, h => by cases h; exact .str x
  | .tup ds, _, h => by
    cases h with
    | tup s r => exact .tup (e.sqT s) (Reps.ext e ds _ r)
  | .ref n, _, h => by
    cases h with
    | ref h => exact .ref (e.re _ _ h)
  | .con v, _, h => by cases h; exact .con v
  | .tpc ds, _, h => by
    cases h with
    | tpc s z r => exact .tpc (e.fz _ _ _ trivial s) z (Reps.ext e ds _ r)
theorem Reps.ext (e : ExtW ρ H ρ' H') : ∀ (ds : List D) (vs : List V), Reps K ρ H vs ds → Reps K ρ' H' vs ds
  | [], _, h => by cases h; exact .nil
  | d :: ds, _, h => by
    cases h with
    | cons h1 h2 => exact .cons (Rep.ext e d _ h1) (Reps.ext e ds _ h2)
end
theorem Rep.up {d : D} {v : V} (h : Rep K ρ H v d) (e : Ext ρ H ρ' H') : Rep K ρ' H' v d := Rep.ext e.w d v h
theorem Rep.upW {d : D} {v : V} (h : Rep K ρ H v d) (e : ExtW ρ H ρ' H') : Rep K ρ' H' v d := Rep.ext e d v h
theorem Reps.up {ds : List D} {vs : List V} (h : Reps K ρ H vs ds) (e : Ext ρ H ρ' H') : Reps K ρ' H' vs ds := Reps.ext e.w ds vs h
theorem Reps.upW {ds : List D} {vs : List V} (h : Reps K ρ H vs ds) (e : ExtW ρ H ρ' H') : Reps K ρ' H' vs ds := Reps.ext e ds vs h
theorem Reps.length : ∀ {ds : List D} {vs : List V}, Reps K ρ H vs ds → vs.length = ds.length
  | [], _, h => by cases h; rfl
  | d :: ds, _, h => by
    cases h with
    | cons _ h2 => rw [List.length_cons, List.length_cons, Reps.length h2]
theorem Reps.get : ∀ {ds : List D} {vs : List V} {i : Nat} {d : D}, Reps K ρ H vs ds → ds[i]? = some d → ∃ v, vs[i]? = some v ∧ Rep K ρ H v d
  | [], _, _, _, h, e => by simp at e
  | d :: ds, _, i, _, h, e => by
    cases h with
    | cons h1 h2 =>
      cases i with
      | zero =>
        obtain rfl : d = _ := by simpa using e
        exact ⟨_, rfl, h1⟩
      | succ i =>
        obtain ⟨v, e1, r⟩ := Reps.get (i := i) h2 (by simpa using e)
        exact ⟨v, by simpa using e1, r⟩
theorem Reps.get' : ∀ {ds : List D} {vs : List V} {i : Nat} {v : V}, Reps K ρ H vs ds → vs[i]? = some v → ∃ d, ds[i]? = some d ∧ Rep K ρ H v d
  | [], _, _, _, h, e => by cases h; simp at e
  | d :: ds, _, i, _, h, e => by
    cases h with
    | cons h1 h2 =>
      cases i with
      | zero =>
        obtain rfl := (by simpa using e : _ = _)
        exact ⟨_, rfl, h1⟩
      | succ i =>
        obtain ⟨v, e1, r⟩ := Reps.get' (i := i) h2 (by simpa using e)
        exact ⟨v, by simpa using e1, r⟩
theorem Reps.set {d : D} {v : V} (r : Rep K ρ H v d) : ∀ {ds : List D} {vs : List V} (i : Nat), Reps K ρ H vs ds → Reps K ρ H (vs.set i v) (ds.set i d)
  | [], _, _, h => by cases h; exact .nil
  | d' :: ds, _, i, h => by
    cases h with
    | cons h1 h2 =>
      cases i with
      | zero => exact .cons r h2
      | succ i => exact .cons h1 (Reps.set r i h2)
theorem Reps.append : ∀ {ds es : List D} {vs ws : List V}, Reps K ρ H vs ds → Reps K ρ H ws es → Reps K ρ H (vs ++ ws) (ds ++ es)
  | [], _, _, _, h, g => by cases h; exact g
  | d :: ds, _, _, _, h, g => by
    cases h with
    | cons h1 h2 => exact .cons h1 (Reps.append h2 g)
theorem Reps.take : ∀ {ds : List D} {vs : List V} (n : Nat), Reps K ρ H vs ds → Reps K ρ H (vs.take n) (ds.take n)
  | _, _, 0, _ => by simp only [List.take_zero]; exact .nil
  | [], _, n + 1, h => by cases h; exact .nil
  | d :: ds, _, n + 1, h => by
    cases h with
    | cons h1 h2 => exact .cons h1 (Reps.take n h2)
theorem Reps.drop : ∀ {ds : List D} {vs : List V} (n : Nat), Reps K ρ H vs ds → Reps K ρ H (vs.drop n) (ds.drop n)
  | _, _, 0, h => h
  | [], _, n + 1, h => by cases h; exact .nil
  | d :: ds, _, n + 1, h => by
    cases h with
    | cons h1 h2 => exact Reps.drop n h2
theorem Reps.eraseIdx : ∀ {ds : List D} {vs : List V} (i : Nat), Reps K ρ H vs ds → Reps K ρ H (vs.eraseIdx i) (ds.eraseIdx i)
  | [], _, _, h => by cases h; exact .nil
  | d :: ds, _, i, h => by
    cases h with
    | cons h1 h2 =>
      cases i with
      | zero => exact h2
      | succ i => exact .cons h1 (Reps.eraseIdx i h2)
theorem Reps.rep {ds : List D} {vs : List V} (h : Reps K ρ H vs ds) : ∀ k : Nat, Reps K ρ H (List.replicate k vs).flatten (List.replicate k ds).flatten
  | 0 => .nil
  | k + 1 => by
    rw [List.replicate_succ, List.replicate_succ, List.flatten_cons, List.flatten_cons]
    exact Reps.append h (Reps.rep h k)

def Flds (K : PySem.W.Frag) (ρ : Rho) (H : Hp) : List (Str × V) → List (Str × D) → Prop
  | [], [] => True
  | p :: ps, q :: qs => p.1 = q.1 ∧ Rep K ρ H p.2 q.2 ∧ Flds K ρ H ps qs
  | _, _ => False
theorem Flds.upW (e : ExtW ρ H ρ' H') : ∀ {ps : List (Str × V)} {qs : List (Str × D)}, Flds K ρ H ps qs → Flds K ρ' H' ps qs
  | [], [], _ => trivial
  | _ :: _, _ :: _, ⟨a, b, c⟩ => ⟨a, b.upW e, Flds.upW e c⟩
theorem Flds.up (e : Ext ρ H ρ' H') {ps : List (Str × V)} {qs : List (Str × D)} (h : Flds K ρ H ps qs) : Flds K ρ' H' ps qs := Flds.upW e.w h
theorem Flds.look {f : Str} : ∀ {ps : List (Str × V)} {qs : List (Str × D)} {d : D}, Flds K ρ H ps qs → qs.lookup f = some d → ∃ v, ps.lookup f = some v ∧ Rep K ρ H v d
  | [], [], _, _, h => by cases h
  | (x, v) :: ps, (y, e) :: qs, d, ⟨a, b, c⟩, h => by
    simp only at a b
    subst a
    simp only [List.lookup] at h ⊢
    cases hx : (f == x) with
    | true =>
      rw [hx] at h
      exact ⟨v, rfl, by rw [← Option.some.inj h]; exact b⟩
    | false =>
      rw [hx] at h
      exact Flds.look c h
theorem Flds.lookNone {f : Str} : ∀ {ps : List (Str × V)} {qs : List (Str × D)}, Flds K ρ H ps qs → qs.lookup f = none → ps.lookup f = none
  | [], [], _, _ => rfl
  | (x, v) :: ps, (y, e) :: qs, ⟨a, b, c⟩, h => by
    simp only at a
    subst a
    simp only [List.lookup] at h ⊢
    cases hx : (f == x) with
    | true => rw [hx] at h; cases h
    | false =>
      rw [hx] at h
      exact Flds.lookNone c h
theorem Flds.length : ∀ {ps : List (Str × V)} {qs : List (Str × D)}, Flds K ρ H ps qs → ps.length = qs.length
  | [], [], _ => rfl
  | _ :: _, _ :: _, ⟨_, _, c⟩ => by rw [List.length_cons, List.length_cons, Flds.length c]
/-- an attribute is set: at its place, or behind all -/
def putD (f : Str) (v : D) : List (Str × D) → List (Str × D)
  | [] => [(f, v)]
  | (g, x) :: r => if g = f then (g, v) :: r else (g, x) :: putD f v r
theorem putF_nil (f : Str) (v : V) : putF f v [] = [(f, v)] := rfl
theorem putF_cons (f g : Str) (v x : V) (r : List (Str × V)) : putF f v ((g, x) :: r) = if g = f then (g, v) :: r else (g, x) :: putF f v r := rfl
theorem Flds.put {f : Str} {d : D} {v : V} (r : Rep K ρ H v d) : ∀ {ps : List (Str × V)} {qs : List (Str × D)}, Flds K ρ H ps qs → Flds K ρ H (putF f v ps) (putD f d qs)
  | [], [], _ => ⟨rfl, r, trivial⟩
  | (x, w) :: ps, (y, e) :: qs, ⟨a, b, c⟩ => by
    simp only at a
    subst a
    rw [putF_cons]
    unfold putD
    by_cases h : x = f
    · rw [if_pos h, if_pos h]
      exact ⟨rfl, r, c⟩
    · rw [if_neg h, if_neg h]
      exact ⟨rfl, b, Flds.put r c⟩

/-- a dict's entries, ints and texts as keys -/
def KDs (K : PySem.W.Frag) (ρ : Rho) (H : Hp) : List (Key × V) → List (Key × D) → Prop
  | [], [] => True
  | p :: ps, q :: qs => p.1 = q.1 ∧ Rep K ρ H p.2 q.2 ∧ KDs K ρ H ps qs
  | _, _ => False
theorem KDs.upW (e : ExtW ρ H ρ' H') : ∀ {ps : List (Key × V)} {qs : List (Key × D)}, KDs K ρ H ps qs → KDs K ρ' H' ps qs
  | [], [], _ => trivial
  | _ :: _, _ :: _, ⟨a, b, c⟩ => ⟨a, b.upW e, KDs.upW e c⟩
theorem KDs.up (e : Ext ρ H ρ' H') {ps : List (Key × V)} {qs : List (Key × D)} (h : KDs K ρ H ps qs) : KDs K ρ' H' ps qs := KDs.upW e.w h
theorem KDs.length : ∀ {ps : List (Key × V)} {qs : List (Key × D)}, KDs K ρ H ps qs → ps.length = qs.length
  | [], [], _ => rfl
  | _ :: _, _ :: _, ⟨_, _, c⟩ => by rw [List.length_cons, List.length_cons, KDs.length c]
theorem KDs.append : ∀ {ps rs : List (Key × V)} {qs ss : List (Key × D)}, KDs K ρ H ps qs → KDs K ρ H rs ss → KDs K ρ H (ps ++ rs) (qs ++ ss)
  | [], _, [], _, _, h => h
  | _ :: _, _, _ :: _, _, ⟨a, b, c⟩, h => ⟨a, b, KDs.append c h⟩
def valD (kds : List (Key × D)) (k : Key) : Option D := (kds.find? fun kd => decide (kd.1 = k)).map (·.2)
def putKD (kds : List (Key × D)) (k : Key) (d : D) : List (Key × D) :=
  if (kds.any fun kd => decide (kd.1 = k)) = true then kds.map (fun kd => if kd.1 = k then (kd.1, d) else kd) else kds ++ [(k, d)]
theorem KDs.val {k : Key} : ∀ {ps : List (Key × V)} {qs : List (Key × D)}, KDs K ρ H ps qs → (valD qs k = none ∧ valV ps k = none) ∨ ∃ v d, valD qs k = some d ∧ valV ps k = some v ∧ Rep K ρ H v d
  | [], [], _ => .inl ⟨rfl, rfl⟩
  | (x, v) :: ps, (y, e) :: qs, ⟨a, b, c⟩ => by
    simp only at a b
    subst a
    by_cases h : x = k
    · exact .inr ⟨v, e, by simp [valD, List.find?_cons, h], by simp [valV, List.find?_cons, h], b⟩
    · have := KDs.val (k := k) c
      simpa [valD, valV, List.find?_cons, h] using this
theorem KDs.any {k : Key} : ∀ {ps : List (Key × V)} {qs : List (Key × D)}, KDs K ρ H ps qs → (ps.any fun kv => decide (kv.1 = k)) = (qs.any fun kv => decide (kv.1 = k))
  | [], [], _ => rfl
  | (x, v) :: ps, (y, e) :: qs, ⟨a, b, c⟩ => by
    simp only at a
    subst a
    rw [List.any_cons, List.any_cons, KDs.any c]
theorem KDs.mapPut {k : Key} {v : V} {d : D} (r : Rep K ρ H v d) : ∀ {ps : List (Key × V)} {qs : List (Key × D)}, KDs K ρ H ps qs → KDs K ρ H (ps.map fun kv => if kv.1 = k then (kv.1, v) else kv) (qs.map fun kd => if kd.1 = k then (kd.1, d) else kd)
  | [], [], _ => trivial
  | (x, w) :: ps, (y, e) :: qs, ⟨a, b, c⟩ => by
    simp only at a
    subst a
    rw [List.map_cons, List.map_cons]
    by_cases h : x = k
    · rw [if_pos h, if_pos h]; exact ⟨rfl, r, KDs.mapPut r c⟩
    · rw [if_neg h, if_neg h]; exact ⟨rfl, b, KDs.mapPut r c⟩
theorem KDs.put {k : Key} {v : V} {d : D} (r : Rep K ρ H v d) {ps : List (Key × V)} {qs : List (Key × D)} (h : KDs K ρ H ps qs) : KDs K ρ H (putK ps k v) (putKD qs k d) := by
  unfold putK putKD
  rw [h.any]
  split
  · exact h.mapPut r
  · exact h.append ⟨rfl, r, trivial⟩
def KLst (K : PySem.W.Frag) (a : Addr) (xs : List V) : Prop :=
  ∃ (o : Obj) (its : Array Value) (n : Nat), K.lookup a = some o ∧ o.cls = .type "list" ∧ o.dict = none ∧ o.data = .seq its n ∧ its.size ≤ sizeLine ∧ Vals xs its.toList
def CellOk (K : PySem.W.Frag) (cl : Nat → Addr) (ρ : Rho) (H : Hp) : Cell → Addr → Prop
  | .lst ds, a => ∃ vs, H a = some (.lst vs) ∧ Reps K ρ H vs ds
  | .fro ds, a => ∃ vs, ((∃ o, H a = some (.frz o (.lst vs))) ∨ KLst K a vs) ∧ Reps K ρ H vs ds
  | .ins c fs, a => ∃ dx vf, H a = some (.ins (cl c) dx vf) ∧ Flds K ρ H vf fs
  | .dct kds, a => ∃ kvs, H a = some (.dK kvs) ∧ KDs K ρ H kvs kds
  | .fdc kds, a => ∃ o kvs, H a = some (.frz o (.dK kvs)) ∧ KDs K ρ H kvs kds
  | .rng i j, a => H a = some (.rng i j)
theorem CellOk.upW {c : Cell} {a : Addr} (h : CellOk K cl ρ H c a) (e : ExtW ρ H ρ' H') (k : Mu c → ∀ o, H a = some o → H' a = some o) : CellOk K cl ρ' H' c a := by
  cases c with
  | lst ds => obtain ⟨vs, h1, h2⟩ := h; exact ⟨vs, k trivial _ h1, h2.upW e⟩
  | fro ds =>
    obtain ⟨vs, h1, h2⟩ := h
    refine ⟨vs, ?_, h2.upW e⟩
    rcases h1 with ⟨o, h1⟩ | h1
    · exact .inl ⟨o, e.fz _ _ _ trivial h1⟩
    · exact .inr h1
  | ins c fs => obtain ⟨dx, vf, h1, h2⟩ := h; exact ⟨dx, vf, k trivial _ h1, Flds.upW e h2⟩
  | dct kds => obtain ⟨kvs, h1, h2⟩ := h; exact ⟨kvs, k trivial _ h1, KDs.upW e h2⟩
  | fdc kds => obtain ⟨o, kvs, h1, h2⟩ := h; exact ⟨o, kvs, k trivial _ h1, KDs.upW e h2⟩
  | rng i j => exact k trivial _ h
theorem CellOk.up {c : Cell} {a : Addr} (h : CellOk K cl ρ H c a) (e : Ext ρ H ρ' H') (k : Mu c → ∀ o, H a = some o → H' a = some o) : CellOk K cl ρ' H' c a := h.upW e.w k
theorem CellOk.isAt {c : Cell} {a : Addr} (h : CellOk K cl ρ H c a) (m : Mu c) : ∃ o, H a = some o := by
  cases c with
  | lst ds => obtain ⟨vs, h1, h2⟩ := h; exact ⟨_, h1⟩
  | fro ds => exact m.elim
  | ins c fs => obtain ⟨dx, vf, h1, h2⟩ := h; exact ⟨_, h1⟩
  | dct kds => obtain ⟨kvs, h1, h2⟩ := h; exact ⟨_, h1⟩
  | fdc kds => obtain ⟨o, kvs, h1, h2⟩ := h; exact ⟨_, h1⟩
  | rng i j => exact ⟨_, h⟩
theorem CellOk.there {c : Cell} {a : Addr} (h : CellOk K cl ρ H c a) (m : Wr c) : ∃ o, H a = some o ∧ ¬ (∃ xs, o = .tup xs) ∧ ¬ ∃ p u, o = .frz p u := by
  cases c with
  | lst ds => obtain ⟨vs, h1, h2⟩ := h; exact ⟨_, h1, (fun ⟨_, e⟩ => nomatch e), fun ⟨_, _, e⟩ => nomatch e⟩
  | fro ds => exact m.elim
  | fdc ds => exact m.elim
  | rng i j => exact m.elim
  | ins c fs => obtain ⟨dx, vf, h1, h2⟩ := h; exact ⟨_, h1, (fun ⟨_, e⟩ => nomatch e), fun ⟨_, _, e⟩ => nomatch e⟩
  | dct kds => obtain ⟨kvs, h1, h2⟩ := h; exact ⟨_, h1, (fun ⟨_, e⟩ => nomatch e), fun ⟨_, _, e⟩ => nomatch e⟩

structure Abs (K : PySem.W.Frag) (cl : Nat → Addr) (ρ : Rho) (H : Hp) (M : AS) : Prop where
  bnd : ∀ n a, ρ n = some a → n < M.nx
  ok : ∀ n c, M.mem n = some c → ∃ a, ρ n = some a ∧ CellOk K cl ρ H c a
  inj : ∀ n m a c c', ρ n = some a → ρ m = some a → M.mem n = some c → M.mem m = some c' → Mu c → Mu c' → n = m

theorem Abs.at {M : AS} (A : Abs K cl ρ H M) {n : Nat} {a : Addr} {c : Cell} (hr : ρ n = some a) (hm : M.mem n = some c) : CellOk K cl ρ H c a := by
  obtain ⟨b, h1, h2⟩ := A.ok n c hm
  rw [hr] at h1
  cases h1
  exact h2
/-- more is laid that the store does not know -/
theorem Abs.same {M : AS} (A : Abs K cl ρ H M) (s : Same H H') : Abs K cl ρ H' M :=
  ⟨A.bnd, fun n c h => let ⟨a, h1, h2⟩ := A.ok n c h; ⟨a, h1, h2.up (Ext.same s) fun _ o q => s _ _ q⟩, A.inj⟩
def rhoNew (ρ : Rho) (n : Nat) (p : Addr) : Rho := fun m => if m = n then some p else ρ m
theorem Abs.ext_new {M : AS} (A : Abs K cl ρ H M) (s : Same H H') (p : Addr) : Ext ρ H (rhoNew ρ M.nx p) H' :=
  ⟨fun n a h => by
    have := A.bnd n a h
    unfold rhoNew
    rw [if_neg (by omega)]
    exact h, fun _ _ h => s _ _ h, fun _ _ _ h => s _ _ h⟩
theorem rhoNew_same {n : Nat} {p : Addr} : rhoNew ρ n p n = some p := if_pos rfl
/-- a new cell -/
theorem Abs.new {M : AS} {c : Cell} {p : Addr} (A : Abs K cl ρ H M) (s : Same H H') (hp : H p = none) (hc : CellOk K cl (rhoNew ρ M.nx p) H' c p) : Abs K cl (rhoNew ρ M.nx p) H' (M.new c) := by
  have e := A.ext_new s p
  have hn : M.mem M.nx = none := by
    cases q : M.mem M.nx with
    | none => rfl
    | some c' =>
      obtain ⟨a, h1, _⟩ := A.ok _ _ q
      exact absurd (A.bnd _ _ h1) (Nat.lt_irrefl _)
  refine ⟨fun n a h => ?_, fun n c' h => ?_, fun n m a c1 c2 h1 h2 h3 h4 m1 m2 => ?_⟩
  · show n < M.nx + 1
    unfold rhoNew at h
    by_cases hq : n = M.nx
    · omega
    · rw [if_neg hq] at h
      have := A.bnd n a h
      omega
  · by_cases hq : n = M.nx
    · subst hq
      rw [AS.new_same] at h
      cases h
      exact ⟨p, rhoNew_same, hc⟩
    · rw [AS.new_ne hq] at h
      obtain ⟨a, h1, h2⟩ := A.ok n c' h
      exact ⟨a, e.re _ _ h1, h2.up e fun _ o q => s _ _ q⟩
  · have old : ∀ k ck b, k ≠ M.nx → (M.new c).mem k = some ck → Mu ck → rhoNew ρ M.nx p k = some b → ρ k = some b ∧ M.mem k = some ck ∧ b ≠ p := fun k ck b hk hm mu hr => by
      rw [AS.new_ne hk] at hm
      unfold rhoNew at hr
      rw [if_neg hk] at hr
      obtain ⟨o, ho⟩ := (A.at hr hm).isAt mu
      exact ⟨hr, hm, ne_of_none ho hp⟩
    by_cases hn1 : n = M.nx
    · by_cases hm1 : m = M.nx
      · omega
      · obtain ⟨_, _, h⟩ := old m c2 a hm1 h4 m2 h2
        subst hn1
        rw [rhoNew_same] at h1
        exact absurd (Option.some.inj h1).symm h
    · by_cases hm1 : m = M.nx
      · obtain ⟨_, _, h⟩ := old n c1 a hn1 h3 m1 h1
        subst hm1
        rw [rhoNew_same] at h2
        exact absurd (Option.some.inj h2).symm h
      · obtain ⟨q1, q2, _⟩ := old n c1 a hn1 h3 m1 h1
        obtain ⟨q3, q4, _⟩ := old m c2 a hm1 h4 m2 h2
        exact A.inj n m a c1 c2 q1 q3 q2 q4 m1 m2
theorem Abs.ext_write {M : AS} {c : Cell} {n : Nat} {a : Addr} {o' : HO} (A : Abs K cl ρ H M) (hr : ρ n = some a) (hm : M.mem n = some c) (mu : Wr c) : Ext ρ H ρ (upd H a o') := by
  obtain ⟨o, ho, n1, n2⟩ := (A.at hr hm).there mu
  refine ⟨fun _ _ h => h, fun b xs h => ?_, fun b p u h => ?_⟩
  · rw [upd_ne (fun z => by subst z; rw [ho] at h; exact n1 ⟨xs, Option.some.inj h⟩)]
    exact h
  · rw [upd_ne (fun z => by subst z; rw [ho] at h; exact n2 ⟨p, u, Option.some.inj h⟩)]
    exact h
/-- a cell is written -/
theorem Abs.writeW {M : AS} {c c' : Cell} {n : Nat} {a : Addr} {o' : HO} (A : Abs K cl ρ H M) (e : ExtW ρ H ρ (upd H a o')) (hr : ρ n = some a) (hm : M.mem n = some c) (mu : Mu c) (hc : CellOk K cl ρ (upd H a o') c' a) :
    Abs K cl ρ (upd H a o') (M.set n c') := by
  refine ⟨A.bnd, fun k ck h => ?_, fun n1 m a' c1 c2 h1 h2 h3 h4 m1 m2 => ?_⟩
  · by_cases hk : k = n
    · subst hk
      rw [AS.set_same] at h
      cases h
      exact ⟨a, hr, hc⟩
    · rw [AS.set_ne hk] at h
      obtain ⟨b, q1, q2⟩ := A.ok k ck h
      refine ⟨b, q1, q2.upW e fun mk o q => ?_⟩
      rw [upd_ne (fun z => by subst z; exact hk (A.inj k n b ck c q1 hr h hm mk mu))]
      exact q
  · have old : ∀ k ck, (M.set n c').mem k = some ck → Mu ck → ∃ d, M.mem k = some d ∧ Mu d := fun k ck hk mk => by
      by_cases q : k = n
      · subst q
        exact ⟨c, hm, mu⟩
      · rw [AS.set_ne q] at hk
        exact ⟨ck, hk, mk⟩
    obtain ⟨d1, q1, q2⟩ := old n1 c1 h3 m1
    obtain ⟨d2, q3, q4⟩ := old m c2 h4 m2
    exact A.inj n1 m a' d1 d2 h1 h2 q1 q3 q2 q4
theorem Abs.write {M : AS} {c c' : Cell} {n : Nat} {a : Addr} {o' : HO} (A : Abs K cl ρ H M) (hr : ρ n = some a) (hm : M.mem n = some c) (mu : Wr c) (mu' : Mu c') (hc : CellOk K cl ρ (upd H a o') c' a) :
    Abs K cl ρ (upd H a o') (M.set n c') := A.writeW (A.ext_write hr hm mu).w hr hm mu.mu hc
/-- a dict is locked, and unlocked -/
theorem Abs.lock {M : AS} {n : Nat} {a : Addr} {kds : List (Key × D)} {kvs : List (Key × V)} (A : Abs K cl ρ H M) (hr : ρ n = some a) (hm : M.mem n = some (.dct kds)) (ha : H a = some (.dK kvs)) (rk : KDs K ρ H kvs kds) (o : Obj) :
    Ext ρ H ρ (upd H a (.frz o (.dK kvs))) ∧ Abs K cl ρ (upd H a (.frz o (.dK kvs))) (M.set n (.fdc kds)) := by
  have e : Ext ρ H ρ (upd H a (.frz o (.dK kvs))) := A.ext_write hr hm trivial
  exact ⟨e, A.write hr hm trivial trivial ⟨o, kvs, upd_same, rk.up e⟩⟩
theorem Abs.unlock {M : AS} {n : Nat} {a : Addr} {o : Obj} {kds : List (Key × D)} {kvs : List (Key × V)} (A : Abs K cl ρ H M) (hr : ρ n = some a) (hm : M.mem n = some (.fdc kds)) (ha : H a = some (.frz o (.dK kvs))) :
    ExtW ρ H ρ (upd H a (.dK kvs)) ∧ Abs K cl ρ (upd H a (.dK kvs)) (M.set n (.dct kds)) := by
  have e : ExtW ρ H ρ (upd H a (.dK kvs)) := ⟨fun _ _ h => h, fun b xs h => by
    rw [upd_ne (fun z => by subst z; rw [ha] at h; cases h)]
    exact h, fun b p u hu h => by
    rw [upd_ne (fun z => by subst z; rw [ha] at h; cases h; exact hu.elim)]
    exact h⟩
  obtain ⟨o', kvs', h1, h2⟩ := A.at hr hm
  rw [ha] at h1
  cases h1
  exact ⟨e, A.writeW e hr hm trivial ⟨kvs, upd_same, KDs.upW e h2⟩⟩
theorem Ext.lockback {ρ1 : Rho} {H1 : Hp} {a : Addr} {o : Obj} {kvs : List (Key × V)} (ha : H a = some (.dK kvs)) (x : Ext ρ (upd H a (.frz o (.dK kvs))) ρ1 H1) : Ext ρ H ρ1 (upd H1 a (.dK kvs)) := by
  have h1 := x.fz a o _ upd_same
  refine ⟨x.re, fun b xs h => ?_, fun b p u h => ?_⟩
  · have hb : b ≠ a := fun z => by subst z; rw [ha] at h; cases h
    rw [upd_ne hb]
    exact x.tu b xs (by rw [upd_ne hb]; exact h)
  · have hb : b ≠ a := fun z => by subst z; rw [ha] at h; cases h
    rw [upd_ne hb]
    exact x.fz b p u (by rw [upd_ne hb]; exact h)

/-! ### frames -/
abbrev DS := List (Option D)
structure Env (K : PySem.W.Frag) (ρ : Rho) (H : Hp) (σ : L2.St) (ds : DS) : Prop where
  len : σ.length = ds.length
  at_ : ∀ (i : Nat) (d : D), ds[i]? = some (some d) → ∃ v, σ[i]? = some (some v) ∧ Rep K ρ H v d
theorem Env.upW {σ : L2.St} {ds : DS} (h : Env K ρ H σ ds) (e : ExtW ρ H ρ' H') : Env K ρ' H' σ ds :=
  ⟨h.len, fun i d q => let ⟨v, a, b⟩ := h.at_ i d q; ⟨v, a, b.upW e⟩⟩
theorem Env.up {σ : L2.St} {ds : DS} (h : Env K ρ H σ ds) (e : Ext ρ H ρ' H') : Env K ρ' H' σ ds := h.upW e.w
theorem Env.set {σ : L2.St} {ds : DS} {d : D} {v : V} (h : Env K ρ H σ ds) (i : Nat) (r : Rep K ρ H v d) : Env K ρ H (σ.set i (some v)) (ds.set i (some d)) := by
  refine ⟨by rw [List.length_set, List.length_set]; exact h.len, fun j e q => ?_⟩
  by_cases hj : j = i
  · subst hj
    by_cases hl : j < ds.length
    · rw [List.getElem?_set_self hl] at q
      cases q
      exact ⟨v, List.getElem?_set_self (by rw [h.len]; exact hl), r⟩
    · rw [List.getElem?_eq_none (by rw [List.length_set]; omega)] at q
      cases q
  · rw [List.getElem?_set_ne (fun z => hj z.symm)] at q
    obtain ⟨w, a, b⟩ := h.at_ j e q
    exact ⟨w, by rw [List.getElem?_set_ne (fun z => hj z.symm)]; exact a, b⟩
end

/-! ### readings as functions -/
abbrev AE := DS → AS → Option (D × AS)
abbrev AT := DS → AS → Option (Bool × AS)
abbrev AA := DS → AS → Option (List D × AS)
inductive Flw where
  | nx | bk | ct | rt (d : D)
abbrev ASt := DS → AS → Option (Flw × DS × AS)
abbrev AG := D → DS → AS → Option (DS × AS)
abbrev AGs := List D → DS → AS → Option (DS × AS)
abbrev AF := List D → AS → Option (D × AS)
section
variable (K : PySem.W.Frag) (cl : Nat → Addr)
def cE (f : AE) : TE := fun σ H Q => ∃ ρ ds M d M', Env K ρ H σ ds ∧ Abs K cl ρ H M ∧ f ds M = some (d, M') ∧ ∀ ρ' v H', Ext ρ H ρ' H' → Abs K cl ρ' H' M' → Rep K ρ' H' v d → Q v H'
def cT (f : AT) : TT := fun σ H Q => ∃ ρ ds M b M', Env K ρ H σ ds ∧ Abs K cl ρ H M ∧ f ds M = some (b, M') ∧ ∀ ρ' H', Ext ρ H ρ' H' → Abs K cl ρ' H' M' → Q b H'
def cA (f : AA) : TA := fun σ H Q => ∃ ρ ds M es M', Env K ρ H σ ds ∧ Abs K cl ρ H M ∧ f ds M = some (es, M') ∧ ∀ ρ' vs H', Ext ρ H ρ' H' → Abs K cl ρ' H' M' → Reps K ρ' H' vs es → Q vs H'
def endOf (Dn : Ends) : Flw → Rho → L2.St → Hp → Prop
  | .nx, _, σ, H => Dn.nx σ H
  | .bk, _, σ, H => Dn.bk σ H
  | .ct, _, σ, H => Dn.ct σ H
  | .rt d, ρ, _, H => ∀ v, Rep K ρ H v d → Dn.rt v H
def cS (f : ASt) : TS := fun Dn σ H => ∃ ρ ds M fl ds' M', Env K ρ H σ ds ∧ Abs K cl ρ H M ∧ f ds M = some (fl, ds', M') ∧
  ∀ ρ' σ' H', Ext ρ H ρ' H' → Abs K cl ρ' H' M' → Env K ρ' H' σ' ds' → endOf K Dn fl ρ' σ' H'
def cG (f : AG) : TG := fun v σ H Q => ∃ ρ ds M d ds' M', Env K ρ H σ ds ∧ Abs K cl ρ H M ∧ Rep K ρ H v d ∧ f d ds M = some (ds', M') ∧ ∀ ρ' σ' H', Ext ρ H ρ' H' → Abs K cl ρ' H' M' → Env K ρ' H' σ' ds' → Q σ' H'
def cGs (f : AGs) : TGs := fun vs σ H Q => ∃ ρ ds M es ds' M', Env K ρ H σ ds ∧ Abs K cl ρ H M ∧ Reps K ρ H vs es ∧ f es ds M = some (ds', M') ∧ ∀ ρ' σ' H', Ext ρ H ρ' H' → Abs K cl ρ' H' M' → Env K ρ' H' σ' ds' → Q σ' H'
def cF (n : Nat) (F : AF) : Sp := fun vs H Q _ => ∃ ρ es M d M', vs.length = n ∧ Reps K ρ H vs es ∧ Abs K cl ρ H M ∧ F es M = some (d, M') ∧ ∀ ρ' v H', Ext ρ H ρ' H' → Abs K cl ρ' H' M' → Rep K ρ' H' v d → Q v H'
end
theorem PE.imp {X : Cx} {e : Expr} {t t' : TE} (h : PE X e t) (i : ∀ σ H Q, t' σ H Q → t σ H Q) : PE X e t' := ⟨fun pins s σ H Q I q => h.run pins s σ H Q I (i σ H Q q)⟩
theorem PT.imp {X : Cx} {e : Expr} {t t' : TT} (h : PT X e t) (i : ∀ σ H Q, t' σ H Q → t σ H Q) : PT X e t' := ⟨fun pins s σ H Q I q => h.run pins s σ H Q I (i σ H Q q)⟩
theorem PW.imp {X : Cx} {e : Expr} {t t' : TT} (h : PW X e t) (i : ∀ σ H Q, t' σ H Q → t σ H Q) : PW X e t' := ⟨fun wh pins s σ H Q I q => h.run wh pins s σ H Q I (i σ H Q q)⟩
theorem PA.imp {X : Cx} {e : List Expr} {t t' : TA} (h : PA X e t) (i : ∀ σ H Q, t' σ H Q → t σ H Q) : PA X e t' := ⟨fun pos pins s σ H Q I q => h.run pos pins s σ H Q I (i σ H Q q)⟩
theorem PS.imp {X : Cx} {e : Stmt} {t t' : TS} (h : PS X e t) (i : ∀ Dn σ H, t' Dn σ H → t Dn σ H) : PS X e t' := ⟨fun pins s σ H Q I q => h.run pins s σ H Q I (i Q σ H q)⟩
theorem PSs.imp {X : Cx} {e : List Stmt} {t t' : TS} (h : PSs X e t) (i : ∀ Dn σ H, t' Dn σ H → t Dn σ H) : PSs X e t' := ⟨fun pins s σ H Q I q => h.run pins s σ H Q I (i Q σ H q)⟩
theorem PG.imp {X : Cx} {e : Expr} {t t' : TG} (h : PG X e t) (i : ∀ v σ H Q, t' v σ H Q → t v σ H Q) : PG X e t' := ⟨fun pins s σ H v u Q I r q => h.run pins s σ H v u Q I r (i v σ H Q q)⟩
theorem PGs.imp {X : Cx} {e : List Expr} {t t' : TGs} (h : PGs X e t) (i : ∀ v σ H Q, t' v σ H Q → t v σ H Q) : PGs X e t' := ⟨fun pins s σ H v u Q I r q => h.run pins s σ H v u Q I r (i v σ H Q q)⟩
/-! how one goes on from a reading -/
section
variable {K : PySem.W.Frag} {cl : Nat → Addr} {ρ : Rho} {H : Hp} {σ : L2.St} {ds : DS} {M M' : AS}
theorem goE {f : AE} {d : D} {Q : VK} (E : Env K ρ H σ ds) (A : Abs K cl ρ H M) (h : f ds M = some (d, M')) (q : ∀ ρ' v H', Ext ρ H ρ' H' → Abs K cl ρ' H' M' → Rep K ρ' H' v d → Q v H') : cE K cl f σ H Q := ⟨ρ, ds, M, d, M', E, A, h, q⟩
theorem goT {f : AT} {b : Bool} {Q : Bool → Hp → Prop} (E : Env K ρ H σ ds) (A : Abs K cl ρ H M) (h : f ds M = some (b, M')) (q : ∀ ρ' H', Ext ρ H ρ' H' → Abs K cl ρ' H' M' → Q b H') : cT K cl f σ H Q := ⟨ρ, ds, M, b, M', E, A, h, q⟩
theorem goA {f : AA} {es : List D} {Q : List V → Hp → Prop} (E : Env K ρ H σ ds) (A : Abs K cl ρ H M) (h : f ds M = some (es, M')) (q : ∀ ρ' vs H', Ext ρ H ρ' H' → Abs K cl ρ' H' M' → Reps K ρ' H' vs es → Q vs H') : cA K cl f σ H Q := ⟨ρ, ds, M, es, M', E, A, h, q⟩
end
end AL
namespace AL
open PySem L2
section
variable {X : Cx} {cl : Nat → Addr} {K : PySem.W.Frag}

/-! ### names, constants -/
def fVar (i : Nat) : AE := fun ds M => match ds[i]? with
  | some (some d) => some (d, M)
  | _ => none
theorem c_var {i : Nat} (σ : L2.St) (H : Hp) (Q : VK) (h : cE K cl (fVar i) σ H Q) : tVar i σ H Q := by
  obtain ⟨ρ, ds, M, d, M', E, A, e, q⟩ := h
  unfold fVar at e
  split at e
  · next d' hd =>
    cases e
    obtain ⟨v, hv, r⟩ := E.at_ i d hd
    exact ⟨v, hv, q ρ v H (Ext.refl _ _) A r⟩
  · cases e
theorem av (i : Nat) {x : Str} {pos : Pos} (hN : X.N[i]? = some x := by rfl) (hv : Vis X.env.scope x := by first | exact Or.inl rfl | exact Or.inr (Or.inl rfl) | exact Or.inr (Or.inr rfl)) (hd : (x == ("__debug__" : Str)) = false := by decide)
    (hcd : (x == ("__classdict__" : Str)) = false := by decide) : PE X (.Name x pos) (cE X.K cl (fVar i)) := PE.imp (pe_var hN hv hd hcd) c_var
def fC (d : D) : AE := fun _ M => some (d, M)
theorem c_C {v : V} {d : D} (hr : ∀ ρ H, Rep K ρ H v d) (σ : L2.St) (H : Hp) (Q : VK) (h : cE K cl (fC d) σ H Q) : tC v σ H Q := by
  obtain ⟨ρ, ds, M, d', M', E, A, e, q⟩ := h
  cases e
  exact q ρ v H (Ext.refl _ _) A (hr ρ H)
theorem a_int {i j pos} : PE X (.Constant (.int i) j pos) (cE X.K cl (fC (.int i))) := PE.imp pe_int (c_C fun _ _ => .int i)
theorem a_bl {b j pos} : PE X (.Constant (.bool b) j pos) (cE X.K cl (fC (.bl b))) := PE.imp pe_bl (c_C fun _ _ => .bl b)
theorem a_non {j pos} : PE X (.Constant .none j pos) (cE X.K cl (fC .non)) := PE.imp pe_non (c_C fun _ _ => .non)
theorem a_str {x j pos} : PE X (.Constant (.str x) j pos) (cE X.K cl (fC (.str x))) := PE.imp pe_str (c_C fun _ _ => .str x)
/-- a module's constant: its value, as data -/
structure Glo (K : PySem.W.Frag) (mg : Str → Option Value) (x : Str) (d : D) : Prop where
  ex : ∃ v u, mg x = some u ∧ RelV v u ∧ ∀ ρ H, Rep K ρ H v d
theorem a_glob {x : Str} {d : D} {pos : Pos} (g : Glo X.K X.mg x d) (hg : Gl X x := by rfl) (hd : (x == ("__debug__" : Str)) = false := by decide) : PE X (.Name x pos) (cE X.K cl (fC d)) := by
  obtain ⟨v, u, hm, r, hr⟩ := g.ex
  exact PE.imp (pe_glob hg hm r hd) (c_C hr)
/-- a built-in class as a value -/
theorem a_ty {x : Str} {n : String} {pos : Pos} (hm : X.mg x = none) (hv : bootBuiltins x = some (.type n)) (hg : Gl X x := by rfl) (hn : x ≠ "__name__" := by decide) (hd : (x == ("__debug__" : Str)) = false := by decide) :
    PE X (.Name x pos) (cE X.K cl (fC (.con (.ty n)))) := PE.imp (pe_bltn (v := V.ty n) hg hm hv rfl hn hd) (c_C fun _ _ => .con _)

/-! ### two places -/
abbrev Op2 := D → D → AS → Option (D × AS)
def fBin (op : Op2) (fa fb : AE) : AE := fun ds M => match fa ds M with
  | none => none
  | some (x, M1) => match fb ds M1 with
    | none => none
    | some (y, M2) => op x y M2
def OpA (K : PySem.W.Frag) (cl : Nat → Addr) (r : R2) (op : Op2) : Prop := ∀ (ρ : Rho) (H : Hp) (M : AS) (x y : V) (dx dy z : D) (M' : AS) (Q : VK), Rep K ρ H x dx → Rep K ρ H y dy → Abs K cl ρ H M → op dx dy M = some (z, M') →
  (∀ ρ' v H', Ext ρ H ρ' H' → Abs K cl ρ' H' M' → Rep K ρ' H' v z → Q v H') → r x y H Q
theorem c_bin {r : R2} {op : Op2} {fa fb : AE} (o : OpA K cl r op) (σ : L2.St) (H : Hp) (Q : VK) (h : cE K cl (fBin op fa fb) σ H Q) : tOp r (cE K cl fa) (cE K cl fb) σ H Q := by
  obtain ⟨ρ, ds, M, d, M', E, A, e, q⟩ := h
  unfold fBin at e
  split at e
  · cases e
  · next x M1 e1 =>
    split at e
    · cases e
    · next y M2 e2 =>
      refine goE E A e1 fun ρ1 v1 H1 x1 A1 r1 => ?_
      refine goE (E.up x1) A1 e2 fun ρ2 v2 H2 x2 A2 r2 => ?_
      exact o ρ2 H2 M2 v1 v2 x y d M' Q (r1.up x2) r2 A2 e fun ρ3 v H3 x3 A3 r3 => q ρ3 v H3 ((x1.trans x2).trans x3) A3 r3
theorem a_op {op : Operator} {r : R2} {o : Op2} {a b : Expr} {fa fb : AE} {pos : Pos} (ho : OpR X (binaryOp op) r) (hA : OpA X.K cl r o) (ha : PE X a (cE X.K cl fa)) (hb : PE X b (cE X.K cl fb)) : PE X (.BinOp a op b pos) (cE X.K cl (fBin o fa fb)) :=
  PE.imp (pe_op ho ha hb) (c_bin hA)
theorem a_cmp {op : CmpOp} {r : R2} {o : Op2} {a b : Expr} {fa fb : AE} {pos : Pos} (ho : OpR X (compareOp op) r) (hA : OpA X.K cl r o) (ha : PE X a (cE X.K cl fa)) (hb : PE X b (cE X.K cl fb)) (hm : behindInMarks op b = false := by first | exact nomark _ | rfl) :
    PE X (.Compare a [op] [b] pos) (cE X.K cl (fBin o fa fb)) := PE.imp (pe_cmpR ho ha hb hm) (c_bin hA)
/-- a test whose value is a bool -/
def fTst (f : AE) : AT := fun ds M => match f ds M with
  | some (.bl b, M1) => some (b, M1)
  | _ => none
theorem t_of {f : AE} (σ : L2.St) (H : Hp) (Q : Bool → Hp → Prop) (h : cT K cl (fTst f) σ H Q) : cE K cl f σ H fun x H' => ∃ k, x = .bl k ∧ Q k H' := by
  obtain ⟨ρ, ds, M, b, M', E, A, e, q⟩ := h
  unfold fTst at e
  split at e
  · next b' M1 e1 =>
    cases e
    refine goE E A e1 fun ρ1 v1 H1 x1 A1 r1 => ?_
    cases r1
    exact ⟨b, rfl, q ρ1 H1 x1 A1⟩
  · cases e
theorem a_tval {e : Expr} {f : AE} (h : PE X e (cE X.K cl f)) (he : ∀ whole, isTrue e X.env whole = (do let v ← whole; standAt e.pos; holding [v] (truthy v)) := by intro _; rfl) : PT X e (cT X.K cl (fTst f)) := PT.imp (pt_val h he) t_of
theorem cE_mono {f : AE} {σ : L2.St} {H : Hp} {Q Q' : VK} (h : cE K cl f σ H Q) (i : ∀ v H', Q v H' → Q' v H') : cE K cl f σ H Q' := by
  obtain ⟨ρ, ds, M, d, M', E, A, e, q⟩ := h
  exact ⟨ρ, ds, M, d, M', E, A, e, fun ρ' v H' x A' r => i v H' (q ρ' v H' x A' r)⟩
theorem a_tcmp {op : CmpOp} {r : R2} {o : Op2} {a b : Expr} {fa fb : AE} {pos : Pos} (ho : OpR X (compareOp op) r) (hA : OpA X.K cl r o) (ha : PE X a (cE X.K cl fa)) (hb : PE X b (cE X.K cl fb)) (hm : behindInMarks op b = false := by first | exact nomark _ | rfl) :
    PT X (.Compare a [op] [b] pos) (cT X.K cl (fTst (fBin o fa fb))) := PT.imp (pt_cmpR ho ha hb hm) fun σ H Q h => c_bin hA σ H _ (t_of σ H Q h)

/-! #### the operators -/
theorem OpA.or {r r' : R2} {o o' : Op2} (h : OpA K cl r o) (h' : OpA K cl r' o') : OpA K cl (fun x y H Q => r x y H Q ∨ r' x y H Q) (fun x y M => match o x y M with | some z => some z | none => o' x y M) := by
  intro ρ H M x y dx dy z M' Q rx ry A e q
  simp only at e
  split at e
  · next w e1 =>
    cases e
    exact .inl (h ρ H M x y dx dy z M' Q rx ry A e1 q)
  · exact .inr (h' ρ H M x y dx dy z M' Q rx ry A e q)
def oI (C : Int → Int → Prop) [∀ i j, Decidable (C i j)] (g : Int → Int → D) : Op2 := fun x y M => match x, y with
  | .int i, .int j => if C i j then some (g i j, M) else none
  | _, _ => none
def oI0 (g : Int → Int → D) : Op2 := fun x y M => match x, y with
  | .int i, .int j => some (g i j, M)
  | _, _ => none
theorem opa_I {C : Int → Int → Prop} [∀ i j, Decidable (C i j)] {g : Int → Int → V} {g' : Int → Int → D} (hg : ∀ ρ H i j, Rep K ρ H (g i j) (g' i j)) : OpA K cl (rI C g) (oI C g') := by
  intro ρ H M x y dx dy z M' Q rx ry A e q
  unfold oI at e
  split at e
  · next i j =>
    cases rx; cases ry
    split at e
    · next hc =>
      cases e
      exact ⟨i, j, rfl, rfl, hc, q ρ _ H (Ext.refl _ _) A (hg ρ H i j)⟩
    · cases e
  · cases e
theorem opa_I0 {g : Int → Int → V} {g' : Int → Int → D} (hg : ∀ ρ H i j, Rep K ρ H (g i j) (g' i j)) : OpA K cl (rI0 g) (oI0 g') := by
  intro ρ H M x y dx dy z M' Q rx ry A e q
  unfold oI0 at e
  split at e
  · next i j =>
    cases rx; cases ry
    cases e
    exact ⟨i, j, rfl, rfl, q ρ _ H (Ext.refl _ _) A (hg ρ H i j)⟩
  · cases e
/-- sizes of written sequences stay far below the model's line -/
abbrev big : Nat := 100000
theorem big_line {n : Nat} (h : n ≤ big) : n ≤ sizeLine := Nat.le_trans h (by decide)
def oCatT : Op2 := fun x y M => match x, y with
  | .tup xs, .tup ys => if xs.length + ys.length ≤ big then some (.tup (xs ++ ys), M) else none
  | _, _ => none
theorem opa_catT : OpA K cl (rCatA K) oCatT := by
  intro ρ H M x y dx dy z M' Q rx ry A e q
  unfold oCatT at e
  split at e
  · next xs ys =>
    split at e
    · next hz =>
      cases e
      cases rx with
      | @tup a vs _ s1 r1 =>
      cases ry with
      | @tup b ws _ s2 r2 =>
      refine ⟨a, b, vs, ws, rfl, rfl, s1, s2, by rw [r1.length, r2.length]; exact big_line hz, fun h0 => ?_, fun _ h0 => ?_, fun _ _ p hp => ?_⟩
      · subst h0
        cases r1
        exact q ρ _ H (Ext.refl _ _) A (.tup s2 r2)
      · subst h0
        cases r2
        rw [List.append_nil] at q
        exact q ρ _ H (Ext.refl _ _) A (.tup s1 r1)
      · have sm : Same H (upd H p (.tup (vs ++ ws))) := fun b o h => by rw [upd_ne (ne_of_none h hp)]; exact h
        exact q ρ _ _ (Ext.same sm) (A.same sm) (.tup (.inl (.inl upd_same)) ((r1.append r2).up (Ext.same sm)))
    · cases e
  · cases e
theorem same_upd {H : Hp} {p : Addr} {o : HO} (hp : H p = none) : Same H (upd H p o) := fun b u h => by rw [upd_ne (ne_of_none h hp)]; exact h
/-- a new list -/
theorem new_lst {ρ : Rho} {H : Hp} {M : AS} {p : Addr} {vs : List V} {es : List D} {Q : VK} (A : Abs K cl ρ H M) (hp : H p = none) (r : Reps K ρ H vs es)
    (q : ∀ ρ' v H', Ext ρ H ρ' H' → Abs K cl ρ' H' (M.new (.lst es)) → Rep K ρ' H' v (.ref M.nx) → Q v H') : Q (.ref p) (upd H p (.lst vs)) := by
  have sm : Same H (upd H p (.lst vs)) := same_upd hp
  have e := A.ext_new sm p
  exact q _ _ _ e (A.new sm hp ⟨vs, upd_same, r.up e⟩) (.ref rhoNew_same)
def lstOf (M : AS) (d : D) : Option (List D) := match d with
  | .ref n => match M.mem n with
    | some (.lst xs) => some xs
    | some (.fro xs) => some xs
    | _ => none
  | _ => none
def mutOf (M : AS) (d : D) : Option (List D) := match d with
  | .ref n => match M.mem n with
    | some (.lst xs) => some xs
    | _ => none
  | _ => none
theorem lst_at {ρ : Rho} {H : Hp} {M : AS} {x : V} {d : D} {xs : List D} (A : Abs K cl ρ H M) (r : Rep K ρ H x d) (e : lstOf M d = some xs) : ∃ a vs, x = .ref a ∧ SqL K H a vs ∧ Reps K ρ H vs xs := by
  unfold lstOf at e
  split at e
  · next n =>
    cases r with
    | @ref a _ hr =>
    split at e
    · next ys hm =>
      cases e
      obtain ⟨vs, h1, h2⟩ := A.at hr hm
      exact ⟨a, vs, rfl, SqL.of h1, h2⟩
    · next ys hm =>
      cases e
      obtain ⟨vs, h1, h2⟩ := A.at hr hm
      refine ⟨a, vs, rfl, ?_, h2⟩
      rcases h1 with ⟨o, h1⟩ | h1
      · exact .inl (.inr ⟨o, h1⟩)
      · exact .inr h1
    · cases e
  · cases e
theorem mut_at {ρ : Rho} {H : Hp} {M : AS} {x : V} {d : D} {xs : List D} (A : Abs K cl ρ H M) (r : Rep K ρ H x d) (e : mutOf M d = some xs) : ∃ n a vs, d = .ref n ∧ x = .ref a ∧ ρ n = some a ∧ M.mem n = some (.lst xs) ∧ H a = some (.lst vs) ∧ Reps K ρ H vs xs := by
  unfold mutOf at e
  split at e
  · next n =>
    cases r with
    | @ref a _ hr =>
    split at e
    · next ys hm =>
      cases e
      obtain ⟨vs, h1, h2⟩ := A.at hr hm
      exact ⟨n, a, vs, rfl, rfl, hr, hm, h1, h2⟩
    · cases e
  · cases e
def oCatL : Op2 := fun x y M => match mutOf M x, mutOf M y with
  | some xs, some ys => if xs.length + ys.length ≤ big then some (.ref M.nx, M.new (.lst (xs ++ ys))) else none
  | _, _ => none
theorem opa_catL : OpA K cl rCat oCatL := by
  intro ρ H M x y dx dy z M' Q rx ry A e q
  unfold oCatL at e
  split at e
  · next xs ys e1 e2 =>
    split at e
    · next hz =>
      cases e
      obtain ⟨n, a, vs, rfl, rfl, hr, hm, h1, r1⟩ := mut_at A rx e1
      obtain ⟨m, b, ws, rfl, rfl, hr2, hm2, h2, r2⟩ := mut_at A ry e2
      exact ⟨a, b, vs, ws, rfl, rfl, h1, h2, by rw [r1.length, r2.length]; exact big_line hz, fun p hp => new_lst A hp (r1.append r2) q⟩
    · cases e
  · cases e
def oCatS : Op2 := fun x y M => match x, y with
  | .str a, .str b => if a.length + b.length ≤ big then some (.str (a ++ b), M) else none
  | _, _ => none
theorem opa_catS : OpA K cl (fun x y H Q => ∃ i j, x = .str i ∧ y = .str j ∧ i.length + j.length ≤ sizeLine ∧ Q (.str (i ++ j)) H) oCatS := by
  intro ρ H M x y dx dy z M' Q rx ry A e q
  unfold oCatS at e
  split at e
  · next a b =>
    split at e
    · next hz =>
      cases e
      cases rx; cases ry
      exact ⟨a, b, rfl, rfl, big_line hz, q ρ _ H (Ext.refl _ _) A (.str _)⟩
    · cases e
  · cases e
def oAdd : Op2 := fun x y M => match x, y with
  | .int i, .int j => some (.int (i + j), M)
  | .tup _, _ => oCatT x y M
  | .str _, _ => oCatS x y M
  | _, _ => oCatL x y M
theorem opa_add : OpA K cl (fun x y H Q => rI0 (fun i j => .int (i + j)) x y H Q ∨ rCatA K x y H Q ∨ rCat x y H Q ∨ ∃ i j, x = .str i ∧ y = .str j ∧ i.length + j.length ≤ sizeLine ∧ Q (.str (i ++ j)) H) oAdd := by
  intro ρ H M x y dx dy z M' Q rx ry A e q
  unfold oAdd at e
  split at e
  · next i j =>
    exact .inl (opa_I0 (g' := fun i j => .int (i + j)) (fun _ _ i j => .int _) ρ H M x y _ _ z M' Q rx ry A e q)
  · exact .inr (.inl (opa_catT ρ H M x y _ _ z M' Q rx ry A e q))
  · exact .inr (.inr (.inr (opa_catS ρ H M x y _ _ z M' Q rx ry A e q)))
  · exact .inr (.inr (.inl (opa_catL ρ H M x y _ _ z M' Q rx ry A e q)))
theorem a_add {a b : Expr} {fa fb : AE} {pos : Pos} (ha : PE X a (cE X.K cl fa)) (hb : PE X b (cE X.K cl fb)) : PE X (.BinOp a .Add b pos) (cE X.K cl (fBin oAdd fa fb)) :=
  a_op (op_add.or (op_catA.or (op_cat.or op_add_str))) opa_add ha hb
abbrev oSub : Op2 := oI0 fun i j => .int (i - j)
theorem a_sub {a b : Expr} {fa fb : AE} {pos : Pos} (ha : PE X a (cE X.K cl fa)) (hb : PE X b (cE X.K cl fb)) : PE X (.BinOp a .Sub b pos) (cE X.K cl (fBin oSub fa fb)) := a_op op_sub (opa_I0 fun _ _ _ _ => .int _) ha hb
instance (i j : Int) : Decidable (CMulW i j) := by unfold CMulW; infer_instance
instance (i j : Int) : Decidable (CDivW i j) := by unfold CDivW; infer_instance
instance (i j : Int) : Decidable (CPow i j) := by unfold CPow; infer_instance
abbrev oMul : Op2 := oI CMulW fun i j => .int (i * j)
theorem a_mul {a b : Expr} {fa fb : AE} {pos : Pos} (ha : PE X a (cE X.K cl fa)) (hb : PE X b (cE X.K cl fb)) : PE X (.BinOp a .Mult b pos) (cE X.K cl (fBin oMul fa fb)) := a_op op_mulW (opa_I fun _ _ _ _ => .int _) ha hb
abbrev oDiv : Op2 := oI CDivW fun i j => .int (i / j)
theorem a_div {a b : Expr} {fa fb : AE} {pos : Pos} (ha : PE X a (cE X.K cl fa)) (hb : PE X b (cE X.K cl fb)) : PE X (.BinOp a .FloorDiv b pos) (cE X.K cl (fBin oDiv fa fb)) := a_op op_fdivW (opa_I fun _ _ _ _ => .int _) ha hb
abbrev oMod : Op2 := oI (fun _ j => 0 < j) fun i j => .int (i % j)
theorem a_mod {a b : Expr} {fa fb : AE} {pos : Pos} (ha : PE X a (cE X.K cl fa)) (hb : PE X b (cE X.K cl fb)) : PE X (.BinOp a .Mod b pos) (cE X.K cl (fBin oMod fa fb)) := a_op op_mod (opa_I fun _ _ _ _ => .int _) ha hb
abbrev oPow : Op2 := oI CPow fun i j => .int (i ^ j.toNat)
theorem a_pow {a b : Expr} {fa fb : AE} {pos : Pos} (ha : PE X a (cE X.K cl fa)) (hb : PE X b (cE X.K cl fb)) : PE X (.BinOp a .Pow b pos) (cE X.K cl (fBin oPow fa fb)) := a_op op_pow (opa_I fun _ _ _ _ => .int _) ha hb
abbrev oLt : Op2 := oI0 fun i j => .bl (decide (i < j))
abbrev oLe : Op2 := oI0 fun i j => .bl (decide (i ≤ j))
abbrev oGt : Op2 := oI0 fun i j => .bl (decide (j < i))
abbrev oGe : Op2 := oI0 fun i j => .bl (decide (j ≤ i))
theorem opa_lt : OpA K cl (rI0 fun i j => .bl (decide (i < j))) oLt := opa_I0 fun _ _ _ _ => .bl _
theorem opa_le : OpA K cl (rI0 fun i j => .bl (decide (i ≤ j))) oLe := opa_I0 fun _ _ _ _ => .bl _
theorem opa_gt : OpA K cl (rI0 fun i j => .bl (decide (j < i))) oGt := opa_I0 fun _ _ _ _ => .bl _
theorem opa_ge : OpA K cl (rI0 fun i j => .bl (decide (j ≤ i))) oGe := opa_I0 fun _ _ _ _ => .bl _

/-! #### is None -/
def D.isNon : D → Bool
  | .non => true
  | _ => false
def oIsN (neg : Bool) : Op2 := fun x y M => match y, x with
  | .non, .con _ => none
  | .non, x => some (.bl (if neg then !x.isNon else x.isNon), M)
  | _, _ => none
theorem opa_isN : OpA K cl (fun x y H Q => y = .non ∧ Q (.bl (decide (x = .non))) H) (oIsN false) := by
  intro ρ H M x y dx dy z M' Q rx ry A e q
  unfold oIsN at e
  split at e
  · cases e
  · cases e
    cases ry
    refine ⟨rfl, q ρ _ H (Ext.refl _ _) A ?_⟩
    have : decide (x = V.non) = dx.isNon := by
      cases rx <;> first | rfl | (rename_i h; exact absurd rfl (h _))
    rw [this]
    exact .bl _
  · cases e
theorem opa_notN : OpA K cl (fun x y H Q => y = .non ∧ Q (.bl (!decide (x = .non))) H) (oIsN true) := by
  intro ρ H M x y dx dy z M' Q rx ry A e q
  unfold oIsN at e
  split at e
  · cases e
  · cases e
    cases ry
    refine ⟨rfl, q ρ _ H (Ext.refl _ _) A ?_⟩
    have : decide (x = V.non) = dx.isNon := by
      cases rx <;> first | rfl | (rename_i h; exact absurd rfl (h _))
    rw [this]
    exact .bl _
  · cases e

/-! #### == of data -/
mutual
def D.py : D → Option PyData
  | .non => some .none
  | .bl b => some (.bool b)
  | .int i => some (.int i)
  | .str x => some (.str x)
  | .tup ds => match D.pys ds with
    | some ps => some (.tuple ps)
    | none => none
  | .ref _ => none
  | .con _ => none
  | .tpc ds => match D.pys ds with
    | some ps => some (.tuple ps)
    | none => none
def D.pys : List D → Option (List PyData)
  | [] => some []
  | d :: ds => match d.py, D.pys ds with
    | some p, some ps => some (p :: ps)
    | _, _ => none
end
mutual
theorem py_dp {ρ : Rho} {H : Hp} : ∀ (d : D) (v : V) (p : PyData), Rep K ρ H v d → d.py = some p → Dp K H v p
  | .non, _, _, r, e => by cases r; cases e; exact .non
  | .bl b, _, _, r, e => by cases r; cases e; exact .bl b
  | .int i, _, _, r, e => by cases r; cases e; exact .int i
  | .str x, _, _, r, e => by cases r; cases e; exact .str x
  | .tup ds, _, _, r, e => by
    cases r with
    | tup s rs =>
    unfold D.py at e
    split at e
    · next ps h =>
      cases e
      exact .tup s (pys_dp ds _ ps rs h)
    · cases e
  | .ref _, _, _, _, e => by cases e
  | .con _, _, _, _, e => by cases e
  | .tpc ds, _, _, r, e => by
    cases r with
    | tpc s z rs =>
    unfold D.py at e
    split at e
    · next ps h =>
      cases e
      exact .tup (.inl (.inr ⟨_, s⟩)) (pys_dp ds _ ps rs h)
    · cases e
theorem pys_dp {ρ : Rho} {H : Hp} : ∀ (ds : List D) (vs : List V) (ps : List PyData), Reps K ρ H vs ds → D.pys ds = some ps → DpAll K H vs ps
  | [], _, _, r, e => by cases r; cases e; exact .nil
  | d :: ds, _, _, r, e => by
    cases r with
    | cons r1 r2 =>
    unfold D.pys at e
    split at e
    · next p ps h1 h2 =>
      cases e
      exact .cons (py_dp d _ p r1 h1) (pys_dp ds _ ps r2 h2)
    · cases e
end
/-- the items of a list, lists of data among them -/
def pysL (M : AS) : List D → Option (List PyData)
  | [] => some []
  | d :: ds => match (match lstOf M d with
      | some xs => match D.pys xs with
        | some ps => some (PyData.list ps)
        | none => none
      | none => d.py), pysL M ds with
    | some p, some ps => some (p :: ps)
    | _, _ => none
theorem pysL_dp {ρ : Rho} {H : Hp} {M : AS} (A : Abs K cl ρ H M) : ∀ (ds : List D) (vs : List V) (ps : List PyData), Reps K ρ H vs ds → pysL M ds = some ps → DpAll K H vs ps
  | [], _, _, r, e => by cases r; cases e; exact .nil
  | d :: ds, _, _, r, e => by
    cases r with
    | cons r1 r2 =>
    unfold pysL at e
    split at e
    · next p ps h1 h2 =>
      cases e
      refine .cons ?_ (pysL_dp A ds _ ps r2 h2)
      split at h1
      · next xs h =>
        obtain ⟨a, vs, rfl, s, rs⟩ := lst_at A r1 h
        split at h1
        · next qs h3 =>
          cases h1
          exact .lst s (pys_dp xs vs qs rs h3)
        · cases h1
      · exact py_dp d _ p r1 h1
    · cases e
def pyM (M : AS) (d : D) : Option PyData := match lstOf M d with
  | some xs => match D.pys xs with
    | some ps => some (.list ps)
    | none => match pysL M xs with
      | some ps => some (.list ps)
      | none => none
  | none => d.py
theorem pyM_dp {ρ : Rho} {H : Hp} {M : AS} {d : D} {v : V} {p : PyData} (A : Abs K cl ρ H M) (r : Rep K ρ H v d) (e : pyM M d = some p) : Dp K H v p := by
  unfold pyM at e
  split at e
  · next xs h =>
    obtain ⟨a, vs, rfl, s, rs⟩ := lst_at A r h
    split at e
    · next ps h2 =>
      cases e
      exact .lst s (pys_dp xs vs ps rs h2)
    · split at e
      · next ps h2 =>
        cases e
        exact .lst s (pysL_dp A xs vs ps rs h2)
      · cases e
  · exact py_dp d v p r e
def oEqD (neg : Bool) : Op2 := fun x y M => match pyM M x, pyM M y with
  | some p, some q => if SeqAt.shaped p && SeqAt.shaped q then some (.bl (if neg then !PyData.eqv p q else PyData.eqv p q), M) else none
  | _, _ => none
theorem opa_eqD : OpA K cl (rEqD K) (oEqD false) := by
  intro ρ H M x y dx dy z M' Q rx ry A e q
  unfold oEqD at e
  split at e
  · next p p' e1 e2 =>
    split at e
    · next hs =>
      cases e
      have hs := Bool.and_eq_true_iff.mp hs
      exact ⟨p, p', pyM_dp A rx e1, pyM_dp A ry e2, hs.1, hs.2, q ρ _ H (Ext.refl _ _) A (.bl _)⟩
    · cases e
  · cases e
theorem opa_neD : OpA K cl (rNeD K) (oEqD true) := by
  intro ρ H M x y dx dy z M' Q rx ry A e q
  unfold oEqD at e
  split at e
  · next p p' e1 e2 =>
    split at e
    · next hs =>
      cases e
      have hs := Bool.and_eq_true_iff.mp hs
      exact ⟨p, p', pyM_dp A rx e1, pyM_dp A ry e2, hs.1, hs.2, q ρ _ H (Ext.refl _ _) A (.bl _)⟩
    · cases e
  · cases e

/-! #### in a tuple or list of flat things -/
def D.flat : D → Option V
  | .non => some .non
  | .bl b => some (.bl b)
  | .int i => some (.int i)
  | .str x => some (.str x)
  | _ => none
def flats : List D → Option (List V)
  | [] => some []
  | d :: ds => match d.flat, flats ds with
    | some v, some vs => some (v :: vs)
    | _, _ => none
theorem flat_is {ρ : Rho} {H : Hp} {d : D} {v w : V} (r : Rep K ρ H v d) (e : d.flat = some w) : v = w ∧ flatV v = true := by
  cases r <;> first | (cases e; exact ⟨rfl, rfl⟩) | cases e
theorem flats_are {ρ : Rho} {H : Hp} : ∀ {ds : List D} {vs ws : List V}, Reps K ρ H vs ds → flats ds = some ws → vs = ws ∧ vs.all flatV = true
  | [], _, _, r, e => by cases r; cases e; exact ⟨rfl, rfl⟩
  | d :: ds, _, _, r, e => by
    cases r with
    | cons r1 r2 =>
    unfold flats at e
    split at e
    · next w ws e1 e2 =>
      cases e
      obtain ⟨h1, f1⟩ := flat_is r1 e1
      obtain ⟨h2, f2⟩ := flats_are r2 e2
      refine ⟨by rw [h1, h2], ?_⟩
      rw [List.all_cons, f1, f2] <;> rfl
    · cases e
def seqOf (M : AS) (d : D) : Option (List D) := match d with
  | .tup xs => some xs
  | .tpc xs => some xs
  | d => lstOf M d
theorem seq_at {ρ : Rho} {H : Hp} {M : AS} {x : V} {d : D} {xs : List D} (A : Abs K cl ρ H M) (r : Rep K ρ H x d) (e : seqOf M d = some xs) : ∃ a vs, x = .ref a ∧ (SqL K H a vs ∨ SqT K H a vs) ∧ Reps K ρ H vs xs := by
  unfold seqOf at e
  split at e
  · cases e
    cases r with
    | tup s rs => exact ⟨_, _, rfl, .inr s, rs⟩
  · cases e
    cases r with
    | tpc s z rs => exact ⟨_, _, rfl, .inr (.inl (.inr ⟨_, s⟩)), rs⟩
  · obtain ⟨a, vs, h1, h2, h3⟩ := lst_at A r e
    exact ⟨a, vs, h1, .inl h2, h3⟩
def oIn (neg : Bool) : Op2 := fun x y M => match x.flat, seqOf M y with
  | some v, some ds => match flats ds with
    | some vs => some (.bl (if neg then !inV v vs else inV v vs), M)
    | none => none
  | _, _ => none
theorem opa_in {neg : Bool} : OpA K cl (rIn K neg) (oIn neg) := by
  intro ρ H M x y dx dy z M' Q rx ry A e q
  unfold oIn at e
  split at e
  · next v ds e1 e2 =>
    split at e
    · next vs e3 =>
      cases e
      obtain ⟨rfl, f1⟩ := flat_is rx e1
      obtain ⟨a, ws, rfl, hs, rs⟩ := seq_at A ry e2
      obtain ⟨rfl, f2⟩ := flats_are rs e3
      exact ⟨a, ws, rfl, hs, f1, f2, q ρ _ H (Ext.refl _ _) A (.bl _)⟩
    · cases e
  · cases e

/-! #### subscripts -/
def oIx : Op2 := fun x y M => match y with
  | .int i => match seqOf M x with
    | some ds => match atI ds i with
      | some d => some (d, M)
      | none => none
    | none => none
  | _ => none
theorem atI_rep {ρ : Rho} {H : Hp} {vs : List V} {ds : List D} {i : Int} {d : D} (r : Reps K ρ H vs ds) (e : atI ds i = some d) : ∃ v, atI vs i = some v ∧ Rep K ρ H v d := by
  unfold atI at e ⊢
  rw [r.length]
  cases h : ixN ds.length i with
  | none => rw [h] at e; cases e
  | some j =>
    rw [h] at e
    exact r.get e
theorem opa_ix : OpA K cl (fun x y H Q => rIxL K x y H Q ∨ rIxT K x y H Q) oIx := by
  intro ρ H M x y dx dy z M' Q rx ry A e q
  unfold oIx at e
  split at e
  · next i =>
    split at e
    · next ds e1 =>
      split at e
      · next d e2 =>
        cases e
        cases ry
        obtain ⟨a, vs, rfl, hs, rs⟩ := seq_at A rx e1
        obtain ⟨v, h1, h2⟩ := atI_rep rs e2
        rcases hs with hs | hs
        · exact .inl ⟨a, vs, i, v, rfl, rfl, hs, h1, q ρ _ H (Ext.refl _ _) A h2⟩
        · exact .inr ⟨a, vs, i, v, rfl, rfl, hs, h1, q ρ _ H (Ext.refl _ _) A h2⟩
      · cases e
    · cases e
  · cases e
theorem a_ix {a b : Expr} {fa fb : AE} {pos : Pos} (ha : PE X a (cE X.K cl fa)) (hb : PE X b (cE X.K cl fb)) (hs : PlainIx b := by exact fun _ _ => rfl) : PE X (.Subscript a b pos) (cE X.K cl (fBin oIx fa fb)) :=
  PE.imp (pe_ix (ix_list.or ix_tup) ha hb hs) (c_bin opa_ix)
end
end AL
namespace AL
open PySem L2
section
variable {X : Cx} {cl : Nat → Addr} {K : PySem.W.Frag}

/-! ### and, or, not, .. if .. else .. -/
def fAnd (f g : AT) : AT := fun ds M => match f ds M with
  | some (true, M1) => g ds M1
  | some (false, M1) => some (false, M1)
  | none => none
def fOr (f g : AT) : AT := fun ds M => match f ds M with
  | some (true, M1) => some (true, M1)
  | some (false, M1) => g ds M1
  | none => none
def fNot (f : AT) : AT := fun ds M => match f ds M with
  | some (b, M1) => some (!b, M1)
  | none => none
theorem c_and {f g : AT} (σ : L2.St) (H : Hp) (Q : Bool → Hp → Prop) (h : cT K cl (fAnd f g) σ H Q) : tAnd (cT K cl f) (cT K cl g) σ H Q := by
  obtain ⟨ρ, ds, M, b, M', E, A, e, q⟩ := h
  unfold fAnd at e
  split at e
  · next M1 e1 =>
    refine goT E A e1 fun ρ1 H1 x1 A1 => ?_
    exact goT (E.up x1) A1 e fun ρ2 H2 x2 A2 => q ρ2 H2 (x1.trans x2) A2
  · next M1 e1 =>
    cases e
    exact goT E A e1 fun ρ1 H1 x1 A1 => q ρ1 H1 x1 A1
  · cases e
theorem c_or {f g : AT} (σ : L2.St) (H : Hp) (Q : Bool → Hp → Prop) (h : cT K cl (fOr f g) σ H Q) : tOr (cT K cl f) (cT K cl g) σ H Q := by
  obtain ⟨ρ, ds, M, b, M', E, A, e, q⟩ := h
  unfold fOr at e
  split at e
  · next M1 e1 =>
    cases e
    exact goT E A e1 fun ρ1 H1 x1 A1 => q ρ1 H1 x1 A1
  · next M1 e1 =>
    refine goT E A e1 fun ρ1 H1 x1 A1 => ?_
    exact goT (E.up x1) A1 e fun ρ2 H2 x2 A2 => q ρ2 H2 (x1.trans x2) A2
  · cases e
theorem c_not {f : AT} (σ : L2.St) (H : Hp) (Q : Bool → Hp → Prop) (h : cT K cl (fNot f) σ H Q) : tNot (cT K cl f) σ H Q := by
  obtain ⟨ρ, ds, M, b, M', E, A, e, q⟩ := h
  unfold fNot at e
  split at e
  · next b1 M1 e1 =>
    cases e
    exact goT E A e1 q
  · cases e
theorem w_and1 {a : Expr} {f : AT} {pos : Pos} (h : PT X a (cT X.K cl f)) : PW X (.BoolOp .And [a] pos) (cT X.K cl f) := pw_and1 h
theorem w_or1 {a : Expr} {f : AT} {pos : Pos} (h : PT X a (cT X.K cl f)) : PW X (.BoolOp .Or [a] pos) (cT X.K cl f) := pw_or1 h
theorem w_and {a b : Expr} {rest : List Expr} {f g : AT} {pos : Pos} (h : PT X a (cT X.K cl f)) (k : PW X (.BoolOp .And (b :: rest) pos) (cT X.K cl g)) : PW X (.BoolOp .And (a :: b :: rest) pos) (cT X.K cl (fAnd f g)) := PW.imp (pw_and h k) c_and
theorem w_or {a b : Expr} {rest : List Expr} {f g : AT} {pos : Pos} (h : PT X a (cT X.K cl f)) (k : PW X (.BoolOp .Or (b :: rest) pos) (cT X.K cl g)) : PW X (.BoolOp .Or (a :: b :: rest) pos) (cT X.K cl (fOr f g)) := PW.imp (pw_or h k) c_or
theorem a_tw {e : Expr} {f : AT} (h : PW X e (cT X.K cl f)) : PT X e (cT X.K cl f) := h.pt
theorem a_tnot {a : Expr} {f : AT} {pos : Pos} (h : PT X a (cT X.K cl f)) : PT X (.UnaryOp .Not a pos) (cT X.K cl (fNot f)) := PT.imp (pt_not h) c_not
/-- .. as values -/
def fAndV (f g : AE) : AE := fun ds M => match f ds M with
  | some (.bl true, M1) => g ds M1
  | some (.bl false, M1) => some (.bl false, M1)
  | _ => none
def fOrV (f g : AE) : AE := fun ds M => match f ds M with
  | some (.bl true, M1) => some (.bl true, M1)
  | some (.bl false, M1) => g ds M1
  | _ => none
def fNotV (f : AE) : AE := fun ds M => match f ds M with
  | some (.bl b, M1) => some (.bl (!b), M1)
  | _ => none
theorem c_andV {f g : AE} (σ : L2.St) (H : Hp) (Q : VK) (h : cE K cl (fAndV f g) σ H Q) : tAndV (cE K cl f) (cE K cl g) σ H Q := by
  obtain ⟨ρ, ds, M, b, M', E, A, e, q⟩ := h
  unfold fAndV at e
  split at e
  · next M1 e1 =>
    refine goE E A e1 fun ρ1 v1 H1 x1 A1 r1 => ?_
    cases r1
    exact ⟨true, rfl, goE (E.up x1) A1 e fun ρ2 v2 H2 x2 A2 r2 => q ρ2 v2 H2 (x1.trans x2) A2 r2⟩
  · next M1 e1 =>
    cases e
    refine goE E A e1 fun ρ1 v1 H1 x1 A1 r1 => ?_
    cases r1
    exact ⟨false, rfl, q ρ1 _ H1 x1 A1 (.bl _)⟩
  · cases e
theorem c_orV {f g : AE} (σ : L2.St) (H : Hp) (Q : VK) (h : cE K cl (fOrV f g) σ H Q) : tOrV (cE K cl f) (cE K cl g) σ H Q := by
  obtain ⟨ρ, ds, M, b, M', E, A, e, q⟩ := h
  unfold fOrV at e
  split at e
  · next M1 e1 =>
    cases e
    refine goE E A e1 fun ρ1 v1 H1 x1 A1 r1 => ?_
    cases r1
    exact ⟨true, rfl, q ρ1 _ H1 x1 A1 (.bl _)⟩
  · next M1 e1 =>
    refine goE E A e1 fun ρ1 v1 H1 x1 A1 r1 => ?_
    cases r1
    exact ⟨false, rfl, goE (E.up x1) A1 e fun ρ2 v2 H2 x2 A2 r2 => q ρ2 v2 H2 (x1.trans x2) A2 r2⟩
  · cases e
theorem c_notV {f : AE} (σ : L2.St) (H : Hp) (Q : VK) (h : cE K cl (fNotV f) σ H Q) : tNotV (cE K cl f) σ H Q := by
  obtain ⟨ρ, ds, M, b, M', E, A, e, q⟩ := h
  unfold fNotV at e
  split at e
  · next b1 M1 e1 =>
    cases e
    refine goE E A e1 fun ρ1 v1 H1 x1 A1 r1 => ?_
    cases r1
    exact ⟨b1, rfl, q ρ1 _ H1 x1 A1 (.bl _)⟩
  · cases e
theorem a_one {op} {a : Expr} {f : AE} {pos : Pos} (h : PE X a (cE X.K cl f)) : PE X (.BoolOp op [a] pos) (cE X.K cl f) := pe_one h
theorem a_and {a b : Expr} {rest : List Expr} {f g : AE} {pos : Pos} (h : PE X a (cE X.K cl f)) (k : PE X (.BoolOp .And (b :: rest) pos) (cE X.K cl g)) : PE X (.BoolOp .And (a :: b :: rest) pos) (cE X.K cl (fAndV f g)) := PE.imp (pe_and h k) c_andV
theorem a_or {a b : Expr} {rest : List Expr} {f g : AE} {pos : Pos} (h : PE X a (cE X.K cl f)) (k : PE X (.BoolOp .Or (b :: rest) pos) (cE X.K cl g)) : PE X (.BoolOp .Or (a :: b :: rest) pos) (cE X.K cl (fOrV f g)) := PE.imp (pe_or h k) c_orV
theorem a_not {a : Expr} {f : AE} {pos : Pos} (h : PE X a (cE X.K cl f)) : PE X (.UnaryOp .Not a pos) (cE X.K cl (fNotV f)) := PE.imp (pe_not h) c_notV
def fIf (t : AT) (f g : AE) : AE := fun ds M => match t ds M with
  | some (true, M1) => f ds M1
  | some (false, M1) => g ds M1
  | none => none
theorem c_if {t : AT} {f g : AE} (σ : L2.St) (H : Hp) (Q : VK) (h : cE K cl (fIf t f g) σ H Q) : tIf (cT K cl t) (cE K cl f) (cE K cl g) σ H Q := by
  obtain ⟨ρ, ds, M, b, M', E, A, e, q⟩ := h
  unfold fIf at e
  split at e
  · next M1 e1 =>
    refine goT E A e1 fun ρ1 H1 x1 A1 => ?_
    exact goE (E.up x1) A1 e fun ρ2 v2 H2 x2 A2 r2 => q ρ2 v2 H2 (x1.trans x2) A2 r2
  · next M1 e1 =>
    refine goT E A e1 fun ρ1 H1 x1 A1 => ?_
    exact goE (E.up x1) A1 e fun ρ2 v2 H2 x2 A2 r2 => q ρ2 v2 H2 (x1.trans x2) A2 r2
  · cases e
theorem a_if {c a b : Expr} {t : AT} {f g : AE} {pos : Pos} (h : PT X c (cT X.K cl t)) (k1 : PE X a (cE X.K cl f)) (k2 : PE X b (cE X.K cl g)) : PE X (.IfExp c a b pos) (cE X.K cl (fIf t f g)) := PE.imp (pe_ifExp h k1 k2) c_if
/-- a value's truth -/
def truD (M : AS) (d : D) : Option Bool := match d with
  | .non => some false
  | .bl b => some b
  | .int i => some (i != 0)
  | .str x => if x.length ≤ big then some ((x.length : Int) != 0) else none
  | d => match seqOf M d with
    | some xs => some !xs.isEmpty
    | none => none
def fTru (f : AE) : AT := fun ds M => match f ds M with
  | some (d, M1) => match truD M1 d with
    | some b => some (b, M1)
    | none => none
  | none => none
theorem tru_is {ρ : Rho} {H : Hp} {M : AS} {d : D} {v : V} {b : Bool} (A : Abs K cl ρ H M) (r : Rep K ρ H v d) (e : truD M d = some b) : TruV K v H b := by
  unfold truD at e
  split at e
  · cases r; cases e; rfl
  · cases r; cases e; rfl
  · cases r; cases e; rfl
  · cases r
    split at e
    · next hz => cases e; exact ⟨big_line hz, rfl⟩
    · cases e
  · split at e
    · next xs h =>
      cases e
      obtain ⟨a, vs, rfl, hs, rs⟩ := seq_at A r h
      have hh : (!vs.isEmpty) = !xs.isEmpty := by
        have := rs.length
        cases vs <;> cases xs <;> first | rfl | cases this
      rcases hs with hs | hs
      · exact .inl ⟨vs, hs, hh.symm⟩
      · exact .inr (.inl ⟨vs, hs, hh.symm⟩)
    · cases e
theorem a_tru {a : Expr} {f : AE} (h : PE X a (cE X.K cl f)) (he : ∀ whole, isTrue a X.env whole = (do let v ← whole; standAt a.pos; holding [v] (truthy v)) := by intro _; rfl) : PT X a (cT X.K cl (fTru f)) :=
  PT.imp (pt_truth h he) fun σ H Q h => by
    obtain ⟨ρ, ds, M, b, M', E, A, e, q⟩ := h
    unfold fTru at e
    split at e
    · next d M1 e1 =>
      split at e
      · next b1 e2 =>
        cases e
        exact goE E A e1 fun ρ1 v1 H1 x1 A1 r1 => ⟨b, tru_is A1 r1 e2, q ρ1 H1 x1 A1⟩
      · cases e
    · cases e
/-- a < b < c -/
def fChain (o o' : Op2) (fa fb fc : AE) : AE := fun ds M => match fa ds M with
  | none => none
  | some (x, M1) => match fb ds M1 with
    | none => none
    | some (y, M2) => match o x y M2 with
      | some (.bl true, M3) => match fc ds M3 with
        | none => none
        | some (z, M4) => o' y z M4
      | some (.bl false, M3) => some (.bl false, M3)
      | _ => none
end
end AL
namespace AL
open PySem L2
section
variable {X : Cx} {cl : Nat → Addr} {K : PySem.W.Frag}

theorem c_chain {r r' : R2} {o o' : Op2} {fa fb fc : AE} (h1 : OpA K cl r o) (h2 : OpA K cl r' o') (σ : L2.St) (H : Hp) (Q : VK) (h : cE K cl (fChain o o' fa fb fc) σ H Q) : tChain r r' (cE K cl fa) (cE K cl fb) (cE K cl fc) σ H Q := by
  obtain ⟨ρ, ds, M, d, M', E, A, e, q⟩ := h
  unfold fChain at e
  split at e
  · cases e
  · next x M1 e1 =>
    split at e
    · cases e
    · next y M2 e2 =>
      refine goE E A e1 fun ρ1 v1 H1 x1 A1 r1 => ?_
      refine goE (E.up x1) A1 e2 fun ρ2 v2 H2 x2 A2 r2 => ?_
      split at e
      · next M3 e3 =>
        refine h1 ρ2 H2 M2 v1 v2 x y (.bl true) M3 _ (r1.up x2) r2 A2 e3 fun ρ3 v3 H3 x3 A3 r3 => ?_
        cases r3
        refine ⟨true, rfl, ?_⟩
        split at e
        · cases e
        · next z M4 e4 =>
          refine goE (E.up ((x1.trans x2).trans x3)) A3 e4 fun ρ4 v4 H4 x4 A4 r4 => ?_
          exact h2 ρ4 H4 M4 v2 v4 y z d M' Q (r2.up (x3.trans x4)) r4 A4 e fun ρ5 v5 H5 x5 A5 r5 => q ρ5 v5 H5 ((((x1.trans x2).trans x3).trans x4).trans x5) A5 r5
      · next M3 e3 =>
        cases e
        refine h1 ρ2 H2 M2 v1 v2 x y (.bl false) _ _ (r1.up x2) r2 A2 e3 fun ρ3 v3 H3 x3 A3 r3 => ?_
        cases r3
        exact ⟨false, rfl, q ρ3 _ H3 ((x1.trans x2).trans x3) A3 (.bl _)⟩
      · cases e
theorem a_chain {op op' : CmpOp} {r r' : R2} {o o' : Op2} {a b c : Expr} {fa fb fc : AE} {pos : Pos} (ho : OpR X (compareOp op) r) (hA : OpA X.K cl r o) (ho' : OpR X (compareOp op') r') (hA' : OpA X.K cl r' o') (ha : PE X a (cE X.K cl fa)) (hb : PE X b (cE X.K cl fb)) (hc : PE X c (cE X.K cl fc))
    (hm : lastMarks [op, op'] [b, c] = false := by with_unfolding_all rfl) : PE X (.Compare a [op, op'] [b, c] pos) (cE X.K cl (fChain o o' fa fb fc)) := PE.imp (pe_chain ho ho' ha hb hc hm) (c_chain hA hA')
theorem a_tchain {op op' : CmpOp} {r r' : R2} {o o' : Op2} {a b c : Expr} {fa fb fc : AE} {pos : Pos} (ho : OpR X (compareOp op) r) (hA : OpA X.K cl r o) (ho' : OpR X (compareOp op') r') (hA' : OpA X.K cl r' o') (ha : PE X a (cE X.K cl fa)) (hb : PE X b (cE X.K cl fb)) (hc : PE X c (cE X.K cl fc))
    (hm : lastMarks [op, op'] [b, c] = false := by with_unfolding_all rfl) : PT X (.Compare a [op, op'] [b, c] pos) (cT X.K cl (fTst (fChain o o' fa fb fc))) := PT.imp (pt_chain ho ho' ha hb hc hm) fun σ H Q h => c_chain hA hA' σ H _ (t_of σ H Q h)

/-! ### arguments, displays -/
def fNil : AA := fun _ M => some ([], M)
def fCons (f : AE) (g : AA) : AA := fun ds M => match f ds M with
  | none => none
  | some (d, M1) => match g ds M1 with
    | none => none
    | some (es, M2) => some (d :: es, M2)
theorem g_nil : PA X [] (cA X.K cl fNil) := PA.imp pa_nil fun σ H Q h => by
  obtain ⟨ρ, ds, M, es, M', E, A, e, q⟩ := h
  cases e
  exact q ρ _ H (Ext.refl _ _) A .nil
theorem g_cons {e : Expr} {es : List Expr} {f : AE} {g : AA} (ha : PE X e (cE X.K cl f)) (hr : PA X es (cA X.K cl g)) (hs : starEach (e :: es) X.env = (false, eval e X.env) :: starEach es X.env := by rfl) : PA X (e :: es) (cA X.K cl (fCons f g)) :=
  PA.imp (pa_cons ha hr hs) fun σ H Q h => by
    obtain ⟨ρ, ds, M, es', M', E, A, e, q⟩ := h
    unfold fCons at e
    split at e
    · cases e
    · next d M1 e1 =>
      split at e
      · cases e
      · next es2 M2 e2 =>
        cases e
        refine goE E A e1 fun ρ1 v1 H1 x1 A1 r1 => ?_
        exact goA (E.up x1) A1 e2 fun ρ2 vs H2 x2 A2 r2 => q ρ2 _ H2 (x1.trans x2) A2 (.cons (r1.up x2) r2)
def fTup (f : AA) : AE := fun ds M => match f ds M with
  | some (es, M1) => if es.length ≤ big then some (.tup es, M1) else none
  | none => none
def fLst (f : AA) : AE := fun ds M => match f ds M with
  | some (es, M1) => if es.length ≤ big then some (.ref M1.nx, M1.new (.lst es)) else none
  | none => none
theorem new_tup {ρ : Rho} {H : Hp} {M : AS} {p : Addr} {vs : List V} {es : List D} {Q : VK} (A : Abs K cl ρ H M) (hp : H p = none) (r : Reps K ρ H vs es)
    (q : ∀ ρ' v H', Ext ρ H ρ' H' → Abs K cl ρ' H' M → Rep K ρ' H' v (.tup es) → Q v H') : Q (.ref p) (upd H p (.tup vs)) := by
  have sm : Same H (upd H p (.tup vs)) := same_upd hp
  exact q ρ _ _ (Ext.same sm) (A.same sm) (.tup (.inl (.inl upd_same)) (r.up (Ext.same sm)))
theorem a_tup {es : List Expr} {x1} {f : AA} {pos : Pos} (h : PA X es (cA X.K cl f)) : PE X (.Tuple es x1 pos) (cE X.K cl (fTup f)) := PE.imp (pe_tup h) fun σ H Q h => by
  obtain ⟨ρ, ds, M, d, M', E, A, e, q⟩ := h
  unfold fTup at e
  split at e
  · next es' M1 e1 =>
    split at e
    · next hz =>
      cases e
      exact goA E A e1 fun ρ1 vs H1 x1 A1 r1 => ⟨by rw [r1.length]; exact big_line hz, fun p hp => new_tup A1 hp r1 fun ρ2 v H2 x2 A2 r2 => q ρ2 v H2 (x1.trans x2) A2 r2⟩
    · cases e
  · cases e
theorem a_lst {es : List Expr} {f : AA} {pos : Pos} (h : PA X es (cA X.K cl f)) : PE X (.List es pos) (cE X.K cl (fLst f)) := PE.imp (pe_lst h) fun σ H Q h => by
  obtain ⟨ρ, ds, M, d, M', E, A, e, q⟩ := h
  unfold fLst at e
  split at e
  · next es' M1 e1 =>
    split at e
    · next hz =>
      cases e
      exact goA E A e1 fun ρ1 vs H1 x1 A1 r1 => ⟨by rw [r1.length]; exact big_line hz, fun p hp => new_lst A1 hp r1 fun ρ2 v H2 x2 A2 r2 => q ρ2 v H2 (x1.trans x2) A2 r2⟩
    · cases e
  · cases e

/-! ### slices of tuples -/
abbrev AO := DS → AS → Option (Option Int × AS)
def cO (K : PySem.W.Frag) (cl : Nat → Addr) (f : AO) : TO := fun σ H Q => ∃ ρ ds M o M', Env K ρ H σ ds ∧ Abs K cl ρ H M ∧ f ds M = some (o, M') ∧ ∀ ρ' H', Ext ρ H ρ' H' → Abs K cl ρ' H' M' → Q o H'
def fNoP : AO := fun _ M => some (none, M)
def fPart (f : AE) : AO := fun ds M => match f ds M with
  | some (.int i, M1) => some (some i, M1)
  | _ => none
theorem PO.imp {X : Cx} {e : Option Expr} {t t' : TO} (h : PO X e t) (i : ∀ σ H Q, t' σ H Q → t σ H Q) : PO X e t' := ⟨fun pins s σ H Q I q => h.run pins s σ H Q I (i σ H Q q)⟩
theorem o_none : PO X none (cO X.K cl fNoP) := PO.imp po_none fun σ H Q h => by
  obtain ⟨ρ, ds, M, o, M', E, A, e, q⟩ := h
  cases e
  exact q ρ H (Ext.refl _ _) A
theorem o_some {e : Expr} {f : AE} (h : PE X e (cE X.K cl f)) : PO X (some e) (cO X.K cl (fPart f)) := PO.imp (po_some h) fun σ H Q h => by
  obtain ⟨ρ, ds, M, o, M', E, A, e, q⟩ := h
  unfold fPart at e
  split at e
  · next i M1 e1 =>
    cases e
    refine goE E A e1 fun ρ1 v1 H1 x1 A1 r1 => ?_
    cases r1
    exact ⟨i, rfl, q ρ1 H1 x1 A1⟩
  · cases e
def cutD (xs : List D) (lo hi : Option Int) : List D := (xs.drop (HT.sIx xs.length 0 lo)).take (HT.sIx xs.length xs.length hi - HT.sIx xs.length 0 lo)
theorem cut_rep {ρ : Rho} {H : Hp} {vs : List V} {ds : List D} (r : Reps K ρ H vs ds) (lo hi : Option Int) : Reps K ρ H (cutV vs lo hi) (cutD ds lo hi) := by
  unfold cutV cutD
  rw [r.length]
  exact (r.drop _).take _
def fSl (f : AE) (lo hi : AO) : AE := fun ds M => match f ds M with
  | some (d, M1) => match lo ds M1 with
    | some (l, M2) => match hi ds M2 with
      | some (h, M3) => match d with
        | .tup xs => some (.tup (cutD xs l h), M3)
        | d => match lstOf M3 d with
          | some xs => some (.ref M3.nx, M3.new (.lst (cutD xs l h)))
          | none => none
      | none => none
    | none => none
  | none => none
theorem a_sl {e : Expr} {lo hi : Option Expr} {f : AE} {fl fh : AO} {p2 pos : Pos} (h : PE X e (cE X.K cl f)) (hl : PO X lo (cO X.K cl fl)) (hh : PO X hi (cO X.K cl fh)) : PE X (.Subscript e (.Slice lo hi none p2) pos) (cE X.K cl (fSl f fl fh)) :=
  PE.imp (pe_slice (sl_tupA.or sl_list) h hl hh) fun σ H Q h => by
    obtain ⟨ρ, ds, M, d, M', E, A, e, q⟩ := h
    unfold fSl at e
    split at e
    · next d1 M1 e1 =>
      split at e
      · next l M2 e2 =>
        split at e
        · next hh M3 e3 =>
          refine goE E A e1 fun ρ1 v1 H1 x1 A1 r1 => ?_
          refine ⟨ρ1, ds, M1, l, M2, E.up x1, A1, e2, fun ρ2 H2 x2 A2 => ?_⟩
          refine ⟨ρ2, ds, M2, hh, M3, E.up (x1.trans x2), A2, e3, fun ρ3 H3 x3 A3 => ?_⟩
          have r3 := r1.up (x2.trans x3)
          have go : ∀ ρ' v H', Ext ρ3 H3 ρ' H' → Abs X.K cl ρ' H' M' → Rep X.K ρ' H' v d → Q v H' := fun ρ' v H' x4 A4 r4 => q ρ' v H' (((x1.trans x2).trans x3).trans x4) A4 r4
          split at e
          · next xs =>
            cases e
            cases r3 with
            | @tup a vs _ s rs =>
            refine .inl ⟨a, vs, rfl, s, fun hw => ?_, fun hw p hp => new_tup A3 hp (cut_rep rs l hh) go⟩
            have : cutD xs l hh = xs := by
              unfold cutD
              rw [rs.length] at hw
              rw [hw.1, hw.2, List.drop_zero, Nat.sub_zero, List.take_length]
            rw [this] at go
            exact go ρ3 _ H3 (Ext.refl _ _) A3 (.tup s rs)
          · split at e
            · next xs e4 =>
              cases e
              obtain ⟨a, vs, h1, h2, rs⟩ := lst_at A3 r3 e4
              exact .inr ⟨a, vs, h1, h2, fun p hp => new_lst A3 hp (cut_rep rs l hh) go⟩
            · cases e
        · cases e
      · cases e
    · cases e

/-! ### calls of built-ins by name -/
abbrev OpN := List D → AS → Option (D × AS)
def CaA (K : PySem.W.Frag) (cl : Nat → Addr) (r : List V → Hp → VK → Prop) (o : OpN) : Prop := ∀ (ρ : Rho) (H : Hp) (M : AS) (vs : List V) (ds : List D) (z : D) (M' : AS) (Q : VK), Reps K ρ H vs ds → Abs K cl ρ H M → o ds M = some (z, M') →
  (∀ ρ' v H', Ext ρ H ρ' H' → Abs K cl ρ' H' M' → Rep K ρ' H' v z → Q v H') → r vs H Q
def fCB (o : OpN) (g : AA) : AE := fun ds M => match g ds M with
  | some (es, M1) => o es M1
  | none => none
theorem c_cb {r : List V → Hp → VK → Prop} {o : OpN} {g : AA} (hA : CaA K cl r o) (σ : L2.St) (H : Hp) (Q : VK) (h : cE K cl (fCB o g) σ H Q) : tCB r (cA K cl g) σ H Q := by
  obtain ⟨ρ, ds, M, d, M', E, A, e, q⟩ := h
  unfold fCB at e
  split at e
  · next es M1 e1 =>
    exact goA E A e1 fun ρ1 vs H1 x1 A1 r1 => hA ρ1 H1 M1 vs es d M' Q r1 A1 e fun ρ2 v H2 x2 A2 r2 => q ρ2 v H2 (x1.trans x2) A2 r2
  · cases e
theorem a_cb {x : Str} {p pos : Pos} {e : Expr} {es : List Expr} {id : String} {r : List V → Hp → VK → Prop} {o : OpN} {g : AA} (hc : CallR X (.builtin id) r) (hA : CaA X.K cl r o) (hm : X.mg x = none) (hv : bootBuiltins x = some (.builtin id)) (ha : PA X (e :: es) (cA X.K cl g)) (hg : Gl X x := by rfl)
    (hn : x ≠ "__name__" := by decide) (hdb : (x == ("__debug__" : Str)) = false := by decide) (hs : starEach (e :: es) X.env = (false, eval e X.env) :: starEach es X.env := by rfl) (hpl : (backTo pos (starEach es X.env)).any (·.1) = false := by rfl) :
    PE X (.Call (.Name x p) (e :: es) [] pos) (cE X.K cl (fCB o g)) := PE.imp (pe_callB hc hg hm hv ha hn hdb hs hpl) (c_cb hA)
theorem a_cty {x : Str} {p pos : Pos} {e : Expr} {es : List Expr} {T : String} {r : List V → Hp → VK → Prop} {o : OpN} {g : AA} (hc : CallR X (.type T) r) (hA : CaA X.K cl r o) (hm : X.mg x = none) (hv : bootBuiltins x = some (.type T)) (ha : PA X (e :: es) (cA X.K cl g)) (hg : Gl X x := by rfl)
    (hn : x ≠ "__name__" := by decide) (hdb : (x == ("__debug__" : Str)) = false := by decide) (hs : starEach (e :: es) X.env = (false, eval e X.env) :: starEach es X.env := by rfl) (hpl : (backTo pos (starEach es X.env)).any (·.1) = false := by rfl) :
    PE X (.Call (.Name x p) (e :: es) [] pos) (cE X.K cl (fCB o g)) := PE.imp (pe_callTy hc hg hm hv ha hn hdb hs hpl) (c_cb hA)
/-- len -/
def oLen : OpN := fun es M => match es with
  | [.str x] => if x.length ≤ big then some (.int x.length, M) else none
  | [d] => match seqOf M d with
    | some xs => some (.int xs.length, M)
    | none => none
  | _ => none
theorem reps1 {ρ : Rho} {H : Hp} {vs : List V} {d : D} (r : Reps K ρ H vs [d]) : ∃ v, vs = [v] ∧ Rep K ρ H v d := by
  cases r with
  | cons r1 r2 => cases r2; exact ⟨_, rfl, r1⟩
theorem reps2 {ρ : Rho} {H : Hp} {vs : List V} {d e : D} (r : Reps K ρ H vs [d, e]) : ∃ v w, vs = [v, w] ∧ Rep K ρ H v d ∧ Rep K ρ H w e := by
  cases r with
  | cons r1 r2 => cases r2 with
    | cons r2 r3 => cases r3; exact ⟨_, _, rfl, r1, r2⟩
theorem reps3 {ρ : Rho} {H : Hp} {vs : List V} {d e f : D} (r : Reps K ρ H vs [d, e, f]) : ∃ v w u, vs = [v, w, u] ∧ Rep K ρ H v d ∧ Rep K ρ H w e ∧ Rep K ρ H u f := by
  cases r with
  | cons r1 r2 =>
    obtain ⟨w, u, rfl, h1, h2⟩ := reps2 r2
    exact ⟨_, w, u, rfl, r1, h1, h2⟩
theorem caa_len : CaA K cl (fun xs H Q => (∃ p ys, xs = [.ref p] ∧ (SqL K H p ys ∨ SqT K H p ys) ∧ Q (.int ys.length) H) ∨ ∃ z, xs = [.str z] ∧ z.length ≤ sizeLine ∧ Q (.int z.length) H) oLen := by
  intro ρ H M vs ds z M' Q rs A e q
  unfold oLen at e
  split at e
  · next x =>
    split at e
    · next hz =>
      cases e
      obtain ⟨v, rfl, r⟩ := reps1 rs
      cases r
      exact .inr ⟨x, rfl, big_line hz, q ρ _ H (Ext.refl _ _) A (.int _)⟩
    · cases e
  · next d _ =>
    split at e
    · next xs e1 =>
      cases e
      obtain ⟨v, rfl, r⟩ := reps1 rs
      obtain ⟨a, ws, rfl, hs, rs2⟩ := seq_at A r e1
      refine .inl ⟨a, ws, rfl, hs, ?_⟩
      rw [rs2.length]
      exact q ρ _ H (Ext.refl _ _) A (.int _)
    · cases e
  · cases e
theorem a_len {p pos : Pos} {e : Expr} {f : AE} (hm : X.mg "len" = none) (ha : PE X e (cE X.K cl f)) (hg : Gl X "len" := by rfl) (hs : starEach [e] X.env = [(false, eval e X.env)] := by rfl) (hpl : (backTo pos (starEach [] X.env)).any (·.1) = false := by rfl) :
    PE X (.Call (.Name "len" p) [e] [] pos) (cE X.K cl (fCB oLen (fCons f fNil))) := a_cb (call_len_seq.or call_len_str) caa_len hm boot_len (g_cons ha g_nil hs) hg (by decide) (by decide) hs hpl
/-- int(n), int(flag) -/
def oInt : OpN := fun es M => match es with
  | [.int i] => some (.int i, M)
  | [.bl b] => some (.int (if b then 1 else 0), M)
  | _ => none
theorem caa_int : CaA K cl (fun xs H Q => (∃ i, xs = [.int i] ∧ Q (.int i) H) ∨ ∃ k, xs = [.bl k] ∧ Q (.int (if k then 1 else 0)) H) oInt := by
  intro ρ H M vs ds z M' Q rs A e q
  unfold oInt at e
  split at e
  · next i =>
    cases e
    obtain ⟨v, rfl, r⟩ := reps1 rs
    cases r
    exact .inl ⟨i, rfl, q ρ _ H (Ext.refl _ _) A (.int _)⟩
  · next b =>
    cases e
    obtain ⟨v, rfl, r⟩ := reps1 rs
    cases r
    exact .inr ⟨b, rfl, q ρ _ H (Ext.refl _ _) A (.int _)⟩
  · cases e
theorem a_intc {p pos : Pos} {e : Expr} {f : AE} (hm : X.mg "int" = none) (ha : PE X e (cE X.K cl f)) (hg : Gl X "int" := by rfl) (hs : starEach [e] X.env = [(false, eval e X.env)] := by rfl) (hpl : (backTo pos (starEach [] X.env)).any (·.1) = false := by rfl) :
    PE X (.Call (.Name "int" p) [e] [] pos) (cE X.K cl (fCB oInt (fCons f fNil))) := a_cty call_int1 caa_int hm (by decide +kernel) (g_cons ha g_nil hs) hg (by decide) (by decide) hs hpl
/-- tuple(xs) -/
def oTuple : OpN := fun es M => match es with
  | [d] => match seqOf M d with
    | some xs => some (.tup xs, M)
    | none => none
  | _ => none
theorem caa_tuple : CaA K cl (fun xs H Q => ∃ p ys, xs = [.ref p] ∧ ((SqL K H p ys ∧ ∀ l, H l = none → Q (.ref l) (upd H l (.tup ys))) ∨ (SqT K H p ys ∧ Q (.ref p) H))) oTuple := by
  intro ρ H M vs ds z M' Q rs A e q
  unfold oTuple at e
  split at e
  · next d =>
    split at e
    · next xs e1 =>
      cases e
      obtain ⟨v, rfl, r⟩ := reps1 rs
      obtain ⟨a, ws, rfl, hs, rs2⟩ := seq_at A r e1
      refine ⟨a, ws, rfl, ?_⟩
      rcases hs with hs | hs
      · exact .inl ⟨hs, fun l hl => new_tup A hl rs2 q⟩
      · exact .inr ⟨hs, q ρ _ H (Ext.refl _ _) A (.tup hs rs2)⟩
    · cases e
  · cases e
theorem a_tuple {p pos : Pos} {e : Expr} {f : AE} (hm : X.mg "tuple" = none) (ha : PE X e (cE X.K cl f)) (hg : Gl X "tuple" := by rfl) (hs : starEach [e] X.env = [(false, eval e X.env)] := by rfl) (hpl : (backTo pos (starEach [] X.env)).any (·.1) = false := by rfl) :
    PE X (.Call (.Name "tuple" p) [e] [] pos) (cE X.K cl (fCB oTuple (fCons f fNil))) := a_cty call_tuple_of caa_tuple hm (by decide +kernel) (g_cons ha g_nil hs) hg (by decide) (by decide) hs hpl
/-- list(xs) -/
def oList : OpN := fun es M => match es with
  | [d] => match seqOf M d with
    | some xs => some (.ref M.nx, M.new (.lst xs))
    | none => none
  | _ => none
theorem caa_list : CaA K cl (fun xs H Q => ∃ p ys, xs = [.ref p] ∧ (SqL K H p ys ∨ SqT K H p ys) ∧ ∀ l, H l = none → Q (.ref l) (upd H l (.lst ys))) oList := by
  intro ρ H M vs ds z M' Q rs A e q
  unfold oList at e
  split at e
  · next d =>
    split at e
    · next xs e1 =>
      cases e
      obtain ⟨v, rfl, r⟩ := reps1 rs
      obtain ⟨a, ws, rfl, hs, rs2⟩ := seq_at A r e1
      exact ⟨a, ws, rfl, hs, fun l hl => new_lst A hl rs2 q⟩
    · cases e
  · cases e
theorem a_list {p pos : Pos} {e : Expr} {f : AE} (hm : X.mg "list" = none) (ha : PE X e (cE X.K cl f)) (hg : Gl X "list" := by rfl) (hs : starEach [e] X.env = [(false, eval e X.env)] := by rfl) (hpl : (backTo pos (starEach [] X.env)).any (·.1) = false := by rfl) :
    PE X (.Call (.Name "list" p) [e] [] pos) (cE X.K cl (fCB oList (fCons f fNil))) := a_cty call_list_of caa_list hm (by decide +kernel) (g_cons ha g_nil hs) hg (by decide) (by decide) hs hpl
/-- all(bools) -/
def bools : List D → Option (List Bool)
  | [] => some []
  | .bl b :: ds => match bools ds with
    | some bs => some (b :: bs)
    | none => none
  | _ :: _ => none
theorem bools_are {ρ : Rho} {H : Hp} : ∀ {ds : List D} {vs : List V} {bs : List Bool}, Reps K ρ H vs ds → bools ds = some bs → vs = bs.map V.bl
  | [], _, _, r, e => by cases r; cases e; rfl
  | d :: ds, _, _, r, e => by
    cases r with
    | cons r1 r2 =>
    unfold bools at e
    split at e
    · next h => cases h
    · next b ds' heq =>
      injection heq with h1 h2
      subst h1 h2
      split at e
      · next bs e1 =>
        cases e
        cases r1
        rw [bools_are r2 e1] <;> rfl
      · cases e
    · cases e
def oAll (a : Bool) : OpN := fun es M => match es with
  | [d] => match lstOf M d with
    | some xs => match bools xs with
      | some bs => some (.bl (if a then bs.all id else bs.any id), M)
      | none => none
    | none => none
  | _ => none
theorem caa_all : CaA K cl (rAll K) (oAll true) := by
  intro ρ H M vs ds z M' Q rs A e q
  unfold oAll at e
  split at e
  · next d =>
    split at e
    · next xs e1 =>
      split at e
      · next bs e2 =>
        cases e
        obtain ⟨v, rfl, r⟩ := reps1 rs
        obtain ⟨a, ws, rfl, hs, rs2⟩ := lst_at A r e1
        have := bools_are rs2 e2
        subst this
        exact ⟨a, bs, rfl, hs, q ρ _ H (Ext.refl _ _) A (.bl _)⟩
      · cases e
    · cases e
  · cases e
theorem caa_any : CaA K cl (rAny K) (oAll false) := by
  intro ρ H M vs ds z M' Q rs A e q
  unfold oAll at e
  split at e
  · next d =>
    split at e
    · next xs e1 =>
      split at e
      · next bs e2 =>
        cases e
        obtain ⟨v, rfl, r⟩ := reps1 rs
        obtain ⟨a, ws, rfl, hs, rs2⟩ := lst_at A r e1
        have := bools_are rs2 e2
        subst this
        exact ⟨a, bs, rfl, hs, q ρ _ H (Ext.refl _ _) A (.bl _)⟩
      · cases e
    · cases e
  · cases e
theorem a_all {p pos : Pos} {e : Expr} {f : AE} (hm : X.mg "all" = none) (hc : X.calm = true) (ha : PE X e (cE X.K cl f)) (hg : Gl X "all" := by rfl) (hs : starEach [e] X.env = [(false, eval e X.env)] := by rfl) (hpl : (backTo pos (starEach [] X.env)).any (·.1) = false := by rfl) :
    PE X (.Call (.Name "all" p) [e] [] pos) (cE X.K cl (fCB (oAll true) (fCons f fNil))) := a_cb (cr_all hc) caa_all hm (by decide +kernel) (g_cons ha g_nil hs) hg (by decide) (by decide) hs hpl
/-- max(i, j), min(i, j), abs(i) -/
def oMax2 : OpN := fun es M => match es with
  | [.int i, .int j] => some (.int (if j > i then j else i), M)
  | _ => none
def oMin2 : OpN := fun es M => match es with
  | [.int i, .int j] => some (.int (if j < i then j else i), M)
  | _ => none
theorem caa_max2 : CaA K cl (fun xs H Q => ∃ i j, xs = [.int i, .int j] ∧ Q (.int (if j > i then j else i)) H) oMax2 := by
  intro ρ H M vs ds z M' Q rs A e q
  unfold oMax2 at e
  split at e
  · next i j =>
    cases e
    obtain ⟨v, w, rfl, r1, r2⟩ := reps2 rs
    cases r1; cases r2
    exact ⟨i, j, rfl, q ρ _ H (Ext.refl _ _) A (.int _)⟩
  · cases e
theorem caa_min2 : CaA K cl (fun xs H Q => ∃ i j, xs = [.int i, .int j] ∧ Q (.int (if j < i then j else i)) H) oMin2 := by
  intro ρ H M vs ds z M' Q rs A e q
  unfold oMin2 at e
  split at e
  · next i j =>
    cases e
    obtain ⟨v, w, rfl, r1, r2⟩ := reps2 rs
    cases r1; cases r2
    exact ⟨i, j, rfl, q ρ _ H (Ext.refl _ _) A (.int _)⟩
  · cases e
def oAbs : OpN := fun es M => match es with
  | [.int i] => some (.int (if i < 0 then -i else i), M)
  | _ => none
theorem caa_abs : CaA K cl (fun xs H Q => ∃ i, xs = [.int i] ∧ Q (.int (if i < 0 then -i else i)) H) oAbs := by
  intro ρ H M vs ds z M' Q rs A e q
  unfold oAbs at e
  split at e
  · next i =>
    cases e
    obtain ⟨v, rfl, r1⟩ := reps1 rs
    cases r1
    exact ⟨i, rfl, q ρ _ H (Ext.refl _ _) A (.int _)⟩
  · cases e
end
end AL
namespace AL
open PySem L2
section
variable {X : Cx} {cl : Nat → Addr} {K : PySem.W.Frag}

/-! ### attributes of instances of known classes -/
/-- at the classes cs the name f is no class attribute -/
structure Atr (K : PySem.W.Frag) (cl : Nat → Addr) (cs : List Nat) (f : Str) : Prop where
  ok : ∀ c ∈ cs, Cls K (cl c) ∧ NoAttr K (cl c) f
theorem Atr.one {c : Nat} {f : Str} (a : Cls K (cl c)) (b : NoAttr K (cl c) f) : Atr K cl [c] f := ⟨fun d h => by
  have : d = c := by simpa using h
  subst this
  exact ⟨a, b⟩⟩
def fFld (cs : List Nat) (f : Str) (fo : AE) : AE := fun ds M => match fo ds M with
  | some (.ref n, M1) => match M1.mem n with
    | some (.ins c fs) => if c ∈ cs then match fs.lookup f with
        | some d => some (d, M1)
        | none => none
      else none
    | _ => none
  | _ => none
theorem a_fld {e : Expr} {f : Str} {cs : List Nat} {fo : AE} {pos : Pos} (T : Atr X.K cl cs f) (he : PE X e (cE X.K cl fo)) (hb : attributeBase e f X.env (eval e X.env) = eval e X.env := by rfl) : PE X (.Attribute e f pos) (cE X.K cl (fFld cs f fo)) :=
  PE.imp (pe_fld he hb) fun σ H Q h => by
    obtain ⟨ρ, ds, M, d, M', E, A, e, q⟩ := h
    unfold fFld at e
    split at e
    · next n M1 e1 =>
      split at e
      · next c fs hm =>
        split at e
        · next hc =>
          split at e
          · next d' hl =>
            cases e
            refine goE E A e1 fun ρ1 v1 H1 x1 A1 r1 => ?_
            cases r1 with
            | @ref a _ hr =>
            obtain ⟨dx, vf, h1, h2⟩ := A1.at hr hm
            obtain ⟨v, h3, h4⟩ := h2.look hl
            exact ⟨a, cl c, dx, vf, v, rfl, h1, (T.ok c hc).1, (T.ok c hc).2, h3, q ρ1 v H1 x1 A1 h4⟩
          · cases e
        · cases e
      · cases e
    · cases e

/-! ### calls of defs -/
structure Fn (X : Cx) (k : Nat) (f : Addr) (ps : List Str) (F : AF) : Prop where
  ex : ∃ fd, FnOk X.prog X.w X.K X.mg X.base CX0 k f fd ps (cF X.K (fun _ => 0) ps.length F) ∧ Binds X.K fd ps []
def fCall (F : AF) (g : AA) : AE := fun ds M => match g ds M with
  | some (es, M1) => F es M1
  | none => none
theorem cF_go {n : Nat} {F : AF} {ρ : Rho} {H : Hp} {M M' : AS} {vs : List V} {es : List D} {d : D} {Q : VK} {E : XK} (hl : vs.length = n) (r : Reps K ρ H vs es) (A : Abs K cl ρ H M) (e : F es M = some (d, M'))
    (q : ∀ ρ' v H', Ext ρ H ρ' H' → Abs K cl ρ' H' M' → Rep K ρ' H' v d → Q v H') : cF K cl n F vs H Q E := ⟨ρ, es, M, d, M', hl, r, A, e, q⟩
theorem c_call {n : Nat} {F : AF} {g : AA} {E0 : XK} (hn : ∀ ds M es M', g ds M = some (es, M') → es.length = n) (σ : L2.St) (H : Hp) (Q : VK) (h : cE K cl (fCall F g) σ H Q) : tCall (cF K cl n F) [] E0 (cA K cl g) σ H Q := by
  obtain ⟨ρ, ds, M, d, M', E, A, e, q⟩ := h
  unfold fCall at e
  split at e
  · next es M1 e1 =>
    refine goA E A e1 fun ρ1 vs H1 x1 A1 r1 => ?_
    rw [List.append_nil]
    exact cF_go (by rw [r1.length, hn _ _ _ _ e1]) r1 A1 e fun ρ2 v H2 x2 A2 r2 => q ρ2 v H2 (x1.trans x2) A2 r2
  · cases e
/-- how many arguments stand there -/
class Many (g : AA) (n : outParam Nat) : Prop where
  len : ∀ ds M es M', g ds M = some (es, M') → es.length = n
instance : Many fNil 0 := ⟨fun ds M es M' e => by cases e; rfl⟩
instance {f : AE} {g : AA} {n : Nat} [m : Many g n] : Many (fCons f g) (n + 1) := ⟨fun ds M es M' e => by
  unfold fCons at e
  split at e
  · cases e
  · split at e
    · cases e
    · next es2 M2 e2 =>
      cases e
      rw [List.length_cons, m.len _ _ _ _ e2]⟩
section
variable {k : Nat} {f C : Addr} {fd : FuncData} {ps : List Str} {F : AF} {x m : Str} {p pos apos : Pos} {e o : Expr} {es : List Expr} {g : AA} {n : Nat}
theorem a_call [mn : Many g n] (G : FnOk X.prog X.w X.K X.mg X.base CX0 k f fd ps (cF X.K cl n F)) (hr : Room k X.A) (hm : X.mg x = some (.ref f)) (hk : PySem.W.keepIn X.K (.ref f) = true) (hb : Binds X.K fd ps [])
    (ha : PA X (e :: es) (cA X.K cl g)) (hg : Gl X x := by rfl) (hdb : (x == ("__debug__" : Str)) = false := by decide) (he : starEach (e :: es) X.env = (false, eval e X.env) :: starEach es X.env := by rfl) (hpl : (backTo pos (starEach es X.env)).any (·.1) = false := by rfl) :
    PE X (.Call (.Name x p) (e :: es) [] pos) (cE X.K cl (fCall F g)) := PE.imp (pe_call G hr hg hm hk hb .nil pass0 ha hdb he hpl) (c_call mn.len)
theorem a_call0 (G : FnOk X.prog X.w X.K X.mg X.base CX0 k f fd ps (cF X.K cl 0 F)) (hr : Room k X.A) (hm : X.mg x = some (.ref f)) (hk : PySem.W.keepIn X.K (.ref f) = true) (hb : Binds X.K fd ps [])
    (hg : Gl X x := by rfl) (hdb : (x == ("__debug__" : Str)) = false := by decide) : PE X (.Call (.Name x p) [] [] pos) (cE X.K cl (fCall F fNil)) := PE.imp (pe_call0 (E := E0) G hr hg hm hk hb .nil pass0 hdb) fun σ H Q h => by
  obtain ⟨ρ, ds, M, d, M', E, A, e, q⟩ := h
  exact cF_go (E := E0) (vs := []) (es := []) rfl .nil A e q
/-- o.m(..) of an instance of class c -/
def fMeth (c : Nat) (m : Str) (F : AF) (fo : AE) (g : AA) : AE := fun ds M => match fo ds M with
  | some (.ref n, M1) => match M1.mem n with
    | some (.ins c' fs) => if c' = c then match fs.lookup m with
        | none => match g ds M1 with
          | some (es, M2) => F (.ref n :: es) M2
          | none => none
        | some _ => none
      else none
    | _ => none
  | _ => none
theorem c_meth {c : Nat} {F : AF} {fo : AE} {g : AA} {E0 : XK} (hn : ∀ ds M es M', g ds M = some (es, M') → es.length = n) (σ : L2.St) (H : Hp) (Q : VK) (h : cE K cl (fMeth c m F fo g) σ H Q) :
    tMeth (cl c) m (cF K cl (n + 1) F) [] E0 (cE K cl fo) (cA K cl g) σ H Q := by
  obtain ⟨ρ, ds, M, d, M', E, A, e, q⟩ := h
  unfold fMeth at e
  split at e
  · next n1 M1 e1 =>
    split at e
    · next c' fs hm =>
      split at e
      · next hc =>
        split at e
        · next hl =>
          split at e
          · next es M2 e2 =>
            refine goE E A e1 fun ρ1 v1 H1 x1 A1 r1 => ?_
            subst hc
            have r1' := r1
            cases r1 with
            | @ref a _ hr =>
            obtain ⟨dx, vf, h1, h2⟩ := A1.at hr hm
            refine ⟨a, dx, vf, rfl, h1, h2.lookNone hl, ?_⟩
            refine goA (E.up x1) A1 e2 fun ρ2 vs H2 x2 A2 r2 => ?_
            rw [List.append_nil]
            exact cF_go (es := .ref n1 :: es) (by rw [List.length_cons, r2.length, hn _ _ _ _ e2]) (.cons (r1'.up x2) r2) A2 e fun ρ3 v H3 x3 A3 r3 => q ρ3 v H3 ((x1.trans x2).trans x3) A3 r3
          · cases e
        · cases e
      · cases e
    · cases e
  · cases e
theorem a_meth [mn : Many g n] {pl : Sem Bool} {c : Nat} {fo : AE} (cc : Cls X.K (cl c)) (hm : Meth X.K (cl c) m f) (G : FnOk X.prog X.w X.K X.mg X.base CX0 k f fd ps (cF X.K cl (n + 1) F)) (hr : Room k X.A) (hb : Binds X.K fd ps [])
    (he : PE X o (cE X.K cl fo)) (ha : PA X (e :: es) (cA X.K cl g))
    (hst : starEach (e :: es) X.env = (false, eval e X.env) :: starEach es X.env := by rfl) (hpl : (backTo pos (starEach es X.env)).any (·.1) = false := by rfl)
    (ht : eval (.Call (.Attribute o m apos) (e :: es) [] pos) X.env = (do
      let ov ← eval o X.env
      standAt apos.atName
      let (f, first) ← holding [ov] (getMethod ov m pl)
      callWith pos f first (backTo pos (starEach (e :: es) X.env)) (backToKw pos (keywordEach [] X.env))) := by rfl) :
    PE X (.Call (.Attribute o m apos) (e :: es) [] pos) (cE X.K cl (fMeth c m F fo g)) := PE.imp (pe_meth he cc hm G hr hb .nil pass0 ha hst hpl ht) (c_meth mn.len)
theorem a_meth0 {pl : Sem Bool} {c : Nat} {fo : AE} (cc : Cls X.K (cl c)) (hm : Meth X.K (cl c) m f) (G : FnOk X.prog X.w X.K X.mg X.base CX0 k f fd ps (cF X.K cl 1 F)) (hr : Room k X.A) (hb : Binds X.K fd ps [])
    (he : PE X o (cE X.K cl fo))
    (ht : eval (.Call (.Attribute o m apos) [] [] pos) X.env = (do
      let ov ← eval o X.env
      standAt apos.atName
      let (f, first) ← holding [ov] (getMethod ov m pl)
      callWith pos f first (backTo pos (starEach [] X.env)) (backToKw pos (keywordEach [] X.env))) := by rfl) :
    PE X (.Call (.Attribute o m apos) [] [] pos) (cE X.K cl (fMeth c m F fo fNil)) := PE.imp (pe_meth0 he cc hm G hr hb .nil pass0 ht) fun σ H Q h => by
  have := c_meth (K := X.K) (cl := cl) (n := 0) (E0 := E0) (fun ds M es M' e => by cases e; rfl) σ H Q h
  refine cE_mono (K := X.K) (cl := cl) (f := fo) ?_ ?_ (Q := fun x H1 => ∃ a dx fs, x = .ref a ∧ H1 a = some (.ins (cl c) dx fs) ∧ fs.lookup m = none ∧ cA X.K cl fNil σ H1 fun vs H2 => (cF X.K cl 1 F) (x :: (vs ++ [])) H2 Q E0)
  · exact this
  · rintro v H' ⟨a, dx, fs, h1, h2, h3, h4⟩
    refine ⟨a, dx, fs, h1, h2, h3, ?_⟩
    obtain ⟨ρ, ds, M, es, M', E, A, e, q⟩ := h4
    cases e
    exact q ρ [] H' (Ext.refl _ _) A .nil
/-- o.f, a property -/
def fProp (c : Nat) (F : AF) (fo : AE) : AE := fun ds M => match fo ds M with
  | some (.ref n, M1) => match M1.mem n with
    | some (.ins c' fs) => if c' = c then F [.ref n] M1 else none
    | _ => none
  | _ => none
theorem a_prop {c : Nat} {fo : AE} {pr g' : Addr} (cc : Cls X.K (cl c)) (hp : PropOf X.K (cl c) m pr g') (G : FnOk X.prog X.w X.K X.mg X.base CX0 k g' fd ps (cF X.K cl 1 F)) (hr : Room (k + 1) X.A) (hb : Binds X.K fd ps [])
    (he : PE X o (cE X.K cl fo)) (hab : attributeBase o m X.env (eval o X.env) = eval o X.env := by rfl) : PE X (.Attribute o m pos) (cE X.K cl (fProp c F fo)) := PE.imp (pe_prop (E := E0) he cc hp G hr hb .nil (fun _ _ _ _ _ _ _ h => h) hab) fun σ H Q h => by
  obtain ⟨ρ, ds, M, d, M', E, A, e, q⟩ := h
  unfold fProp at e
  split at e
  · next n1 M1 e1 =>
    split at e
    · next c' fs hm =>
      split at e
      · next hc =>
        refine goE E A e1 fun ρ1 v1 H1 x1 A1 r1 => ?_
        subst hc
        have r1' := r1
        cases r1 with
        | @ref a _ hr' =>
        obtain ⟨dx, vf, h1, h2⟩ := A1.at hr' hm
        exact ⟨a, dx, vf, rfl, h1, cF_go (E := E0) (vs := [.ref a]) (es := [.ref n1]) rfl (.cons r1' .nil) A1 e fun ρ3 v H3 x3 A3 r3 => q ρ3 v H3 (x1.trans x3) A3 r3⟩
      · cases e
    · cases e
  · cases e
/-- C(..): a new instance, then __init__ -/
def fMake (c : Nat) (F : AF) (g : AA) : AE := fun ds M => match g ds M with
  | some (es, M1) => match F (.ref M1.nx :: es) (M1.new (.ins c [])) with
    | some (.non, M2) => some (.ref M1.nx, M2)
    | _ => none
  | none => none
theorem make_new {c : Nat} {ρ : Rho} {H : Hp} {M : AS} {x dx : Addr} (A : Abs K cl ρ H M) (hx : H x = none) (hd : H dx = none) (hne : dx ≠ x) :
    Ext ρ H (rhoNew ρ M.nx x) (upd (upd H dx (.own x)) x (.ins (cl c) dx [])) ∧ Abs K cl (rhoNew ρ M.nx x) (upd (upd H dx (.own x)) x (.ins (cl c) dx [])) (M.new (.ins c [])) := by
  have sm : Same H (upd (upd H dx (.own x)) x (.ins (cl c) dx [])) := fun b o h => by
    rw [upd_ne (ne_of_none h hx), upd_ne (ne_of_none h hd)]
    exact h
  exact ⟨A.ext_new sm x, A.new sm hx ⟨dx, [], upd_same, trivial⟩⟩
theorem a_make [mn : Many g n] {c : Nat} (MK : Mk X.K (cl c) f) (G : FnOk X.prog X.w X.K X.mg X.base CX0 k f fd ps (cF X.K cl (n + 1) F)) (hr : Room (k + 1) X.A) (hm : X.mg x = some (.ref (cl c))) (hb : Binds X.K fd ps [])
    (ha : PA X (e :: es) (cA X.K cl g)) (hg : Gl X x := by rfl) (hdb : (x == ("__debug__" : Str)) = false := by decide) (he : starEach (e :: es) X.env = (false, eval e X.env) :: starEach es X.env := by rfl) (hpl : (backTo pos (starEach es X.env)).any (·.1) = false := by rfl) :
    PE X (.Call (.Name x p) (e :: es) [] pos) (cE X.K cl (fMake c F g)) := PE.imp (pe_make MK G hr hg hm hb .nil pass0 ha hdb he hpl) fun σ H Q h => by
  obtain ⟨ρ, ds, M, d, M', E, A, e, q⟩ := h
  unfold fMake at e
  split at e
  · next es' M1 e1 =>
    split at e
    · next M2 e2 =>
      cases e
      refine goA E A e1 fun ρ1 vs H1 x1 A1 r1 => fun xx dx hx hd hne => ?_
      obtain ⟨x2, A2⟩ := make_new (c := c) A1 hx hd hne
      rw [List.append_nil]
      refine cF_go (es := .ref M1.nx :: es') (by rw [List.length_cons, r1.length, mn.len _ _ _ _ e1]) (.cons (.ref rhoNew_same) (r1.up x2)) A2 e2 fun ρ3 v H3 x3 A3 r3 => ?_
      cases r3
      exact ⟨rfl, q ρ3 _ H3 ((x1.trans x2).trans x3) A3 (.ref (x3.re _ _ rhoNew_same))⟩
    · cases e
  · cases e
end
/-- C(e, .., k = v, ..): gD puts the arguments in the parameters' order -/
def fMakeK (c n m : Nat) (gD : List D → List D → List D) (F : AF) (g gk : AA) : AE := fun ds M => match g ds M with
  | some (es, M1) => match gk ds M1 with
    | some (zs, M2) => if es.length = n ∧ zs.length = m then match F (gD (.ref M2.nx :: es) zs) (M2.new (.ins c [])) with
        | some (.non, M3) => some (.ref M2.nx, M3)
        | _ => none
      else none
    | none => none
  | none => none
theorem a_makeK {k n N m : Nat} {f : Addr} {fd : FuncData} {ps ks : List Str} {F : AF} {x : Str} {p pos : Pos} {e : Expr} {es : List Expr} {kws : List Keyword} {g gk : AA} {gd : List Value → List Value → List Value} {gV : List V → List V → List V} {gD : List D → List D → List D} {c : Nat}
    (MK : Mk X.K (cl c) f) (G : FnOk X.prog X.w X.K X.mg X.base CX0 k f fd ps (cF X.K cl N F)) (hr : Room (k + 1) X.A) (hm : X.mg x = some (.ref (cl c))) (hb : KBn X.K fd ps (n + 1) ks gd gV)
    (hk : ks.length = m) (hD : ∀ ρ H vs es zs ws, es.length = n + 1 → zs.length = m → Reps X.K ρ H vs es → Reps X.K ρ H ws zs → (gV vs ws).length = N ∧ Reps X.K ρ H (gV vs ws) (gD es zs))
    (ha : PA X (e :: es) (cA X.K cl g)) (hkw : PK X kws (cA X.K cl gk)) (hg : Gl X x := by rfl)
    (hall : (backToKw pos (keywordEach kws X.env)).all (·.1.isSome) = true := by rfl) (hks : (backToKw pos (keywordEach kws X.env)).filterMap (·.1) = ks := by rfl) (hdb : (x == ("__debug__" : Str)) = false := by decide)
    (he : starEach (e :: es) X.env = (false, eval e X.env) :: starEach es X.env := by rfl) (hpl : ((backTo pos (starEach (e :: es) X.env)).any (·.1) || (backToKw pos (keywordEach kws X.env)).any (·.1.isNone)) = false := by rfl) :
    PE X (.Call (.Name x p) (e :: es) kws pos) (cE X.K cl (fMakeK c n m gD F g gk)) := PE.imp (pe_makeK MK G hr hg hm hb pass0 ha hkw hall hks hdb he hpl) fun σ H Q h => by
  obtain ⟨ρ, ds, M, d, M', E, A, e, q⟩ := h
  unfold fMakeK at e
  split at e
  · next es' M1 e1 =>
    split at e
    · next zs M2 e2 =>
      split at e
      · next hl =>
        split at e
        · next M3 e3 =>
          cases e
          refine goA E A e1 fun ρ1 vs H1 x1 A1 r1 => ?_
          refine goA (E.up x1) A1 e2 fun ρ2 ws H2 x2 A2 r2 => ?_
          refine ⟨by rw [r1.length]; exact hl.1, by rw [r2.length, hk]; exact hl.2, fun xx dx hx hd hne => ?_⟩
          obtain ⟨x3, A3⟩ := make_new (c := c) A2 hx hd hne
          have hh := hD (rhoNew ρ2 M2.nx xx) _ (.ref xx :: vs) (.ref M2.nx :: es') zs ws (by rw [List.length_cons, hl.1]) hl.2 (.cons (.ref rhoNew_same) (r1.up (x2.trans x3))) (r2.up x3)
          refine cF_go hh.1 hh.2 A3 e3 fun ρ4 v H4 x4 A4 r4 => ?_
          cases r4
          exact ⟨rfl, q ρ4 _ H4 (((x1.trans x2).trans x3).trans x4) A4 (.ref (x4.re _ _ rhoNew_same))⟩
        · cases e
      · cases e
    · cases e
  · cases e
theorem PK.imp {X : Cx} {e : List Keyword} {t t' : TA} (h : PK X e t) (i : ∀ σ H Q, t' σ H Q → t σ H Q) : PK X e t' := ⟨fun pos pins s σ H Q I q => h.run pos pins s σ H Q I (i σ H Q q)⟩
theorem k_nil : PK X [] (cA X.K cl fNil) := PK.imp pk_nil fun σ H Q h => by
  obtain ⟨ρ, ds, M, es, M', E, A, e, q⟩ := h
  cases e
  exact q ρ _ H (Ext.refl _ _) A .nil
theorem k_cons {nm : Option Str} {e : Expr} {kpos : Pos} {kws : List Keyword} {f : AE} {g : AA} (ha : PE X e (cE X.K cl f)) (hr : PK X kws (cA X.K cl g)) : PK X (⟨nm, e, kpos⟩ :: kws) (cA X.K cl (fCons f g)) :=
  PK.imp (pk_cons ha hr) fun σ H Q h => by
    obtain ⟨ρ, ds, M, es', M', E, A, e, q⟩ := h
    unfold fCons at e
    split at e
    · cases e
    · next d M1 e1 =>
      split at e
      · cases e
      · next es2 M2 e2 =>
        cases e
        refine goE E A e1 fun ρ1 v1 H1 x1 A1 r1 => ?_
        exact goA (E.up x1) A1 e2 fun ρ2 vs H2 x2 A2 r2 => q ρ2 _ H2 (x1.trans x2) A2 (.cons (r1.up x2) r2)
end
end AL
namespace AL
open PySem L2
section
variable {X : Cx} {cl : Nat → Addr} {K : PySem.W.Frag}

/-! ### targets -/
def gN (i : Nat) : AG := fun d ds M => some (ds.set i (some d), M)
theorem t_name {i : Nat} {x : Str} {pos : Pos} (hN : X.N.Nodup) (hi : X.N[i]? = some x := by rfl) (hx : Loc X.env.scope x := by first | exact .inl rfl | exact .inr rfl)
    (hf : X.fn x = true ∨ X.env.scope.names.lookup x = some .local := by first | exact .inl rfl | exact .inr rfl) : PG X (.Name x pos) (cG X.K cl (gN i)) := PG.imp (pg_name hN hi hx hf) fun v σ H Q h => by
  obtain ⟨ρ, ds, M, d, ds', M', E, A, r, e, q⟩ := h
  cases e
  exact q ρ _ H (Ext.refl _ _) A (E.set i r)
def gsNil : AGs := fun es ds M => match es with
  | [] => some (ds, M)
  | _ => none
def gsCons (g : AG) (gs : AGs) : AGs := fun es ds M => match es with
  | d :: es => match g d ds M with
    | some (ds1, M1) => gs es ds1 M1
    | none => none
  | [] => none
theorem ts_nil : PGs X [] (cGs X.K cl gsNil) := PGs.imp pgs_nil fun vs σ H Q h => by
  obtain ⟨ρ, ds, M, es, ds', M', E, A, r, e, q⟩ := h
  unfold gsNil at e
  split at e
  · cases e
    cases r
    exact ⟨rfl, q ρ σ H (Ext.refl _ _) A E⟩
  · cases e
theorem ts_cons {e : Expr} {es : List Expr} {g : AG} {gs : AGs} (h1 : PG X e (cG X.K cl g)) (h2 : PGs X es (cGs X.K cl gs))
    (hs : (assignEach (e :: es) X.env).map (·.2) = assign e X.env :: (assignEach es X.env).map (·.2) := by rfl) : PGs X (e :: es) (cGs X.K cl (gsCons g gs)) := PGs.imp (pgs_cons h1 h2 hs) fun vs σ H Q h => by
  obtain ⟨ρ, ds, M, es', ds', M', E, A, r, e, q⟩ := h
  unfold gsCons at e
  split at e
  · next d es2 =>
    split at e
    · next ds1 M1 e1 =>
      cases r with
      | @cons v vs2 _ _ r1 r2 =>
      refine ⟨v, vs2, rfl, ρ, ds, M, d, ds1, M1, E, A, r1, e1, fun ρ1 σ1 H1 x1 A1 E1 => ?_⟩
      exact ⟨ρ1, ds1, M1, es2, ds', M', E1, A1, r2.up x1, e, fun ρ2 σ2 H2 x2 A2 E2 => q ρ2 σ2 H2 (x1.trans x2) A2 E2⟩
    · cases e
  · cases e
def gTupD (n : Nat) (gs : AGs) : AG := fun d ds M => match d with
  | .tup es => if es.length = n then gs es ds M else none
  | _ => none
theorem t_tup {es : List Expr} {k : Nat} {gs : AGs} {n : Nat} {pos : Pos} (hc : X.calm = true) (h : PGs X es (cGs X.K cl gs))
    (hn : (assignEach es X.env).length = n := by rfl) (hst : (assignEach es X.env).findIdx? (·.1) = none := by rfl) : PG X (.Tuple es k pos) (cG X.K cl (gTupD n gs)) := PG.imp (pg_tup hc h hn hst) fun v σ H Q h => by
  obtain ⟨ρ, ds, M, d, ds', M', E, A, r, e, q⟩ := h
  unfold gTupD at e
  split at e
  · next es' =>
    split at e
    · next hl =>
      cases r with
      | @tup a vs _ s rs =>
      exact ⟨a, vs, rfl, s, by rw [rs.length]; exact hl, ρ, ds, M, es', ds', M', E, A, rs, e, q⟩
    · cases e
  · cases e
/-- o[i] = .. , o a list -/
def gSubD (fo fi : AE) : AG := fun d ds M => match fo ds M with
  | some (o, M1) => match fi ds M1 with
    | some (.int k, M2) => match o with
      | .ref n => match M2.mem n with
        | some (.lst xs) => match ixN xs.length k with
          | some j => some (ds, M2.set n (.lst (xs.set j d)))
          | none => none
        | _ => none
      | _ => none
    | _ => none
  | none => none
theorem t_sub {o i : Expr} {fo fi : AE} {pos : Pos} (ho : PE X o (cE X.K cl fo)) (hi : PE X i (cE X.K cl fi))
    (ha : ∀ v, assign (.Subscript o i pos) X.env v = (do
      let ov ← holding [v] (eval o X.env)
      let iv ← holding [v, ov] (eval i X.env)
      standAt pos
      holding [v, ov, iv] (setItem ov iv v)
      release [v, ov, iv] []) := by intro _; rfl) : PG X (.Subscript o i pos) (cG X.K cl (gSubD fo fi)) := PG.imp (pg_sub ho hi set_list ha) fun v σ H Q h => by
  obtain ⟨ρ, ds, M, d, ds', M', E, A, r, e, q⟩ := h
  unfold gSubD at e
  split at e
  · next o1 M1 e1 =>
    split at e
    · next k M2 e2 =>
      split at e
      · next n =>
        split at e
        · next xs hm =>
          split at e
          · next j hj =>
            cases e
            refine goE E A e1 fun ρ1 v1 H1 x1 A1 r1 => ?_
            refine goE (E.up x1) A1 e2 fun ρ2 v2 H2 x2 A2 r2 => ?_
            cases r2
            have r1 := r1.up x2
            cases r1 with
            | @ref a _ hr =>
            obtain ⟨vs, h1, rs⟩ := A2.at hr hm
            refine ⟨a, vs, k, j, rfl, rfl, h1, by rw [rs.length]; exact hj, ?_⟩
            have x3 : Ext ρ2 H2 ρ2 (upd H2 a (.lst (vs.set j v))) := A2.ext_write hr hm trivial
            have A3 := A2.write (c' := .lst (xs.set j d)) (o' := .lst (vs.set j v)) hr hm trivial trivial ⟨_, upd_same, (rs.set (r.up (x1.trans x2)) j).up x3⟩
            exact q ρ2 σ _ ((x1.trans x2).trans x3) A3 (E.up ((x1.trans x2).trans x3))
          · cases e
        · cases e
      · cases e
    · cases e
  · cases e
/-- o.f = .. -/
def gFld (K : PySem.W.Frag) (ta : TE) (f : Str) : TG := fun v σ H Q => ta σ H fun x H1 => ∃ a C dx fs, x = .ref a ∧ H1 a = some (.ins C dx fs) ∧ Cls K C ∧ NoAttr K C f ∧ fs.length < 1000 ∧ Q σ (upd H1 a (.ins C dx (putF f v fs)))
theorem pg_fld {o : Expr} {f : Str} {ta : TE} {pos : Pos} (ho : PE X o ta) : PG X (.Attribute o f pos) (gFld X.K ta f) := by
  refine ⟨fun pins s σ H v u Q I r h => ?_⟩
  rw [assign_Attribute]
  refine wpAny_bind (wpAny_holding (thn (ho.run pins s σ H _ I h) fun ov s1 ⟨x, H1, I1, r1, a, C, dx, fs, e, ea, c, n, hl, q1⟩ => ?_))
  subst e
  obtain rfl : ov = Value.ref a := r1
  refine wpAny_bind (wpAny_standAt (wpAny_bind (wpAny_holding (setattr_ok I1 ea c n hl r fun s2 I2 => ?_))))
  exact wpAny_release ⟨σ, _, I2, q1⟩
def fldPut (cs : List Nat) (f : Str) (o d : D) (M : AS) : Option AS := match o with
  | .ref n => match M.mem n with
    | some (.ins c fs) => if c ∈ cs ∧ fs.length < 1000 then some (M.set n (.ins c (putD f d fs))) else none
    | _ => none
  | _ => none
theorem fld_put {cs : List Nat} {f : Str} {o d : D} {M M' : AS} {ρ : Rho} {H : Hp} {x y : V} (T : Atr K cl cs f) (A : Abs K cl ρ H M) (ro : Rep K ρ H x o) (rd : Rep K ρ H y d) (e : fldPut cs f o d M = some M') :
    ∃ a C dx fs, x = .ref a ∧ H a = some (.ins C dx fs) ∧ Cls K C ∧ NoAttr K C f ∧ fs.length < 1000 ∧ Ext ρ H ρ (upd H a (.ins C dx (putF f y fs))) ∧ Abs K cl ρ (upd H a (.ins C dx (putF f y fs))) M' := by
  unfold fldPut at e
  split at e
  · next n =>
    split at e
    · next c fs hm =>
      split at e
      · next hc =>
        cases e
        cases ro with
        | @ref a _ hr =>
        obtain ⟨dx, vf, h1, h2⟩ := A.at hr hm
        have x3 : Ext ρ H ρ (upd H a (.ins (cl c) dx (putF f y vf))) := A.ext_write hr hm trivial
        exact ⟨a, cl c, dx, vf, rfl, h1, (T.ok c hc.1).1, (T.ok c hc.1).2, by rw [h2.length]; exact hc.2, x3, A.write (c' := .ins c (putD f d fs)) hr hm trivial trivial ⟨dx, _, upd_same, (h2.put rd).up x3⟩⟩
      · cases e
    · cases e
  · cases e
def gFldD (cs : List Nat) (f : Str) (fo : AE) : AG := fun d ds M => match fo ds M with
  | some (o, M1) => match fldPut cs f o d M1 with
    | some M2 => some (ds, M2)
    | none => none
  | none => none
theorem t_fld {o : Expr} {f : Str} {cs : List Nat} {fo : AE} {pos : Pos} (T : Atr X.K cl cs f) (ho : PE X o (cE X.K cl fo)) : PG X (.Attribute o f pos) (cG X.K cl (gFldD cs f fo)) := PG.imp (pg_fld ho) fun v σ H Q h => by
  obtain ⟨ρ, ds, M, d, ds', M', E, A, r, e, q⟩ := h
  unfold gFldD at e
  split at e
  · next o1 M1 e1 =>
    split at e
    · next M2 e2 =>
      cases e
      refine goE E A e1 fun ρ1 v1 H1 x1 A1 r1 => ?_
      obtain ⟨a, C, dx, fs, h1, h2, h3, h4, h5, x2, A2⟩ := fld_put T A1 r1 (r.up x1) e2
      exact ⟨a, C, dx, fs, h1, h2, h3, h4, h5, q ρ1 σ _ (x1.trans x2) A2 (E.up (x1.trans x2))⟩
    · cases e
  · cases e

/-! ### statements -/
def fNx : ASt := fun ds M => some (.nx, ds, M)
def fSeq (f g : ASt) : ASt := fun ds M => match f ds M with
  | some (.nx, ds1, M1) => g ds1 M1
  | r => r
theorem ss_nil : PSs X [] (cS X.K cl fNx) := PSs.imp pss_nil fun Dn σ H h => by
  obtain ⟨ρ, ds, M, fl, ds', M', E, A, e, q⟩ := h
  cases e
  exact q ρ σ H (Ext.refl _ _) A E
theorem ss_one {st : Stmt} {f : ASt} (h : PS X st (cS X.K cl f)) : PSs X [st] (cS X.K cl f) := pss_one h
theorem ss_cons {st : Stmt} {rest : List Stmt} {f g : ASt} (h1 : PS X st (cS X.K cl f)) (h2 : PSs X rest (cS X.K cl g)) : PSs X (st :: rest) (cS X.K cl (fSeq f g)) := PSs.imp (pss_cons h1 h2) fun Dn σ H h => by
  obtain ⟨ρ, ds, M, fl, ds', M', E, A, e, q⟩ := h
  unfold fSeq at e
  split at e
  · next ds1 M1 e1 =>
    refine ⟨ρ, ds, M, .nx, ds1, M1, E, A, e1, fun ρ1 σ1 H1 x1 A1 E1 => ?_⟩
    exact ⟨ρ1, ds1, M1, fl, ds', M', E1, A1, e, fun ρ2 σ2 H2 x2 A2 E2 => q ρ2 σ2 H2 (x1.trans x2) A2 E2⟩
  · next hne =>
    refine ⟨ρ, ds, M, fl, ds', M', E, A, e, fun ρ1 σ1 H1 x1 A1 E1 => ?_⟩
    have := q ρ1 σ1 H1 x1 A1 E1
    cases fl with
    | nx => exact absurd e (hne _ _)
    | bk => exact this
    | ct => exact this
    | rt d => exact this
theorem s_pass {pos : Pos} : PS X (.Pass pos) (cS X.K cl fNx) := PS.imp ps_pass fun Dn σ H h => by
  obtain ⟨ρ, ds, M, fl, ds', M', E, A, e, q⟩ := h
  cases e
  exact q ρ σ H (Ext.refl _ _) A E
def fBk : ASt := fun ds M => some (.bk, ds, M)
def fCt : ASt := fun ds M => some (.ct, ds, M)
theorem s_break {pos : Pos} : PS X (.Break pos) (cS X.K cl fBk) := PS.imp ps_break fun Dn σ H h => by
  obtain ⟨ρ, ds, M, fl, ds', M', E, A, e, q⟩ := h
  cases e
  exact q ρ σ H (Ext.refl _ _) A E
theorem s_continue {pos : Pos} : PS X (.Continue pos) (cS X.K cl fCt) := PS.imp ps_continue fun Dn σ H h => by
  obtain ⟨ρ, ds, M, fl, ds', M', E, A, e, q⟩ := h
  cases e
  exact q ρ σ H (Ext.refl _ _) A E
theorem s_doc {x j pos pos'} : PS X (.Expr (.Constant (.str x) j pos) pos') (cS X.K cl fNx) := PS.imp ps_doc fun Dn σ H h => by
  obtain ⟨ρ, ds, M, fl, ds', M', E, A, e, q⟩ := h
  cases e
  exact q ρ σ H (Ext.refl _ _) A E
/-- a statement that is never reached -/
def fNever : ASt := fun _ _ => none
theorem s_never {st : Stmt} : PS X st (cS X.K cl fNever) := PS.imp ps_never fun Dn σ H h => by
  obtain ⟨ρ, ds, M, fl, ds', M', E, A, e, q⟩ := h
  cases e
def fDrop (f : AE) : ASt := fun ds M => match f ds M with
  | some (_, M1) => some (.nx, ds, M1)
  | none => none
theorem s_expr {e : Expr} {f : AE} {pos : Pos} (he : PE X e (cE X.K cl f)) (hs : swapsWith e none pos.line X.env = pure false := by rfl) : PS X (.Expr e pos) (cS X.K cl (fDrop f)) := PS.imp (ps_expr he hs) fun Dn σ H h => by
  obtain ⟨ρ, ds, M, fl, ds', M', E, A, e, q⟩ := h
  unfold fDrop at e
  split at e
  · next d M1 e1 =>
    cases e
    exact goE E A e1 fun ρ1 v1 H1 x1 A1 r1 => q ρ1 σ H1 x1 A1 (E.up x1)
  · cases e
def fRet (f : AE) : ASt := fun ds M => match f ds M with
  | some (d, M1) => some (.rt d, ds, M1)
  | none => none
theorem s_ret {e : Expr} {f : AE} {pos : Pos} (he : PE X e (cE X.K cl f)) : PS X (.Return (some e) pos) (cS X.K cl (fRet f)) := PS.imp (ps_ret he) fun Dn σ H h => by
  obtain ⟨ρ, ds, M, fl, ds', M', E, A, e, q⟩ := h
  unfold fRet at e
  split at e
  · next d M1 e1 =>
    cases e
    exact goE E A e1 fun ρ1 v1 H1 x1 A1 r1 => q ρ1 σ H1 x1 A1 (E.up x1) v1 r1
  · cases e
def fRetN : ASt := fun ds M => some (.rt .non, ds, M)
theorem s_retN {pos : Pos} : PS X (.Return none pos) (cS X.K cl fRetN) := PS.imp ps_retN fun Dn σ H h => by
  obtain ⟨ρ, ds, M, fl, ds', M', E, A, e, q⟩ := h
  cases e
  exact q ρ σ H (Ext.refl _ _) A E .non .non
def fIfS (t : AT) (f g : ASt) : ASt := fun ds M => match t ds M with
  | some (true, M1) => f ds M1
  | some (false, M1) => g ds M1
  | none => none
theorem s_if {c : Expr} {a b : List Stmt} {t : AT} {f g : ASt} {pos : Pos} (hc : PT X c (cT X.K cl t)) (ha : PSs X a (cS X.K cl f)) (hb : PSs X b (cS X.K cl g)) : PS X (.If c a b pos) (cS X.K cl (fIfS t f g)) := PS.imp (ps_if hc ha hb) fun Dn σ H h => by
  obtain ⟨ρ, ds, M, fl, ds', M', E, A, e, q⟩ := h
  unfold fIfS at e
  split at e
  · next M1 e1 =>
    refine goT E A e1 fun ρ1 H1 x1 A1 => ?_
    exact ⟨ρ1, ds, M1, fl, ds', M', E.up x1, A1, e, fun ρ2 σ2 H2 x2 A2 E2 => q ρ2 σ2 H2 (x1.trans x2) A2 E2⟩
  · next M1 e1 =>
    refine goT E A e1 fun ρ1 H1 x1 A1 => ?_
    exact ⟨ρ1, ds, M1, fl, ds', M', E.up x1, A1, e, fun ρ2 σ2 H2 x2 A2 E2 => q ρ2 σ2 H2 (x1.trans x2) A2 E2⟩
  · cases e
def fAsg (f : AE) (g : AG) : ASt := fun ds M => match f ds M with
  | some (d, M1) => match g d ds M1 with
    | some (ds1, M2) => some (.nx, ds1, M2)
    | none => none
  | none => none
theorem c_asg {f : AE} {g : AG} (Dn : Ends) (σ : L2.St) (H : Hp) (h : cS K cl (fAsg f g) Dn σ H) : tAsg (cE K cl f) (cG K cl g) Dn σ H := by
  obtain ⟨ρ, ds, M, fl, ds', M', E, A, e, q⟩ := h
  unfold fAsg at e
  split at e
  · next d M1 e1 =>
    split at e
    · next ds1 M2 e2 =>
      cases e
      refine goE E A e1 fun ρ1 v1 H1 x1 A1 r1 => ?_
      exact ⟨ρ1, ds, M1, d, ds', M', E.up x1, A1, r1, e2, fun ρ2 σ2 H2 x2 A2 E2 => q ρ2 σ2 H2 (x1.trans x2) A2 E2⟩
    · cases e
  · cases e
theorem s_asg {tg e : Expr} {f : AE} {g : AG} {pos : Pos} (he : PE X e (cE X.K cl f)) (hg : PG X tg (cG X.K cl g)) (hs : swapsWithSole [tg] e pos.line X.env = pure false := by rfl) (hw : swappedStores [tg] e X.env = pure none := by rfl)
    (h1 : (assignEach [tg] X.env).map (·.2) = [assign tg X.env] := by rfl) : PS X (.Assign [tg] e pos) (cS X.K cl (fAsg f g)) := PS.imp (ps_asg he hg hs hw h1) c_asg
theorem s_set {i : Nat} {x : Str} {e : Expr} {f : AE} {pos pos' : Pos} (hN : X.N.Nodup) (he : PE X e (cE X.K cl f)) (hi : X.N[i]? = some x := by rfl) (hx : Loc X.env.scope x := by first | exact .inl rfl | exact .inr rfl)
    (hs : swapsWith e (some (.Name x pos')) pos.line X.env = pure false := by rfl) (hf : X.fn x = true ∨ X.env.scope.names.lookup x = some .local := by first | exact .inl rfl | exact .inr rfl) :
    PS X (.Assign [.Name x pos'] e pos) (cS X.K cl (fAsg f (gN i))) := PS.imp (ps_set hN hi hx he hs hf) fun Dn σ H h => by
  obtain ⟨ρ, ds, M, fl, ds', M', E, A, e, q⟩ := h
  unfold fAsg gN at e
  split at e
  · next d M1 e1 =>
    cases e
    exact goE E A e1 fun ρ1 v1 H1 x1 A1 r1 => q ρ1 _ H1 x1 A1 ((E.up x1).set i r1)
  · cases e
/-- a, b = x, y, local names -/
def fPar (i j : Nat) (g : AA) : ASt := fun ds M => match g ds M with
  | some ([d, e], M1) => some (.nx, (ds.set i (some d)).set j (some e), M1)
  | _ => none
theorem s_par {i j : Nat} {x y : Str} {a b : Expr} {g : AA} {px py pt : Pos} {kt k2 pt2 pos} (hc : X.calm = true) (hN : X.N.Nodup) (hij : i ≠ j) (ha : PA X [a, b] (cA X.K cl g))
    (h : ∀ ta : TA, PA X [a, b] ta → PS X (.Assign [.Tuple [.Name x px, .Name y py] kt pt] (.Tuple [a, b] k2 pt2) pos) (tPar i j ta)) : PS X (.Assign [.Tuple [.Name x px, .Name y py] kt pt] (.Tuple [a, b] k2 pt2) pos) (cS X.K cl (fPar i j g)) := PS.imp (h _ ha) fun Dn σ H h => by
  obtain ⟨ρ, ds, M, fl, ds', M', E, A, e, q⟩ := h
  unfold fPar at e
  split at e
  · next d e' M1 e1 =>
    cases e
    refine goA E A e1 fun ρ1 vs H1 x1 A1 r1 => ?_
    obtain ⟨v, w, rfl, h1, h2⟩ := reps2 r1
    exact ⟨v, w, rfl, q ρ1 _ H1 x1 A1 (((E.up x1).set i h1).set j h2)⟩
  · cases e
/-- o.f = e -/
def fFldS (cs : List Nat) (f : Str) (fo fv : AE) : ASt := fun ds M => match fv ds M with
  | some (d, M1) => match fo ds M1 with
    | some (o, M2) => match fldPut cs f o d M2 with
      | some M3 => some (.nx, ds, M3)
      | none => none
    | none => none
  | none => none
theorem s_fld {o value : Expr} {f : Str} {cs : List Nat} {fo fv : AE} {pos pos' : Pos} (T : Atr X.K cl cs f) (ho : PE X o (cE X.K cl fo)) (hv : PE X value (cE X.K cl fv)) (hs : swapsWith value (some (.Attribute o f pos')) pos.line X.env = pure false := by rfl) :
    PS X (.Assign [.Attribute o f pos'] value pos) (cS X.K cl (fFldS cs f fo fv)) := PS.imp (ps_fld ho hv hs) fun Dn σ H h => by
  obtain ⟨ρ, ds, M, fl, ds', M', E, A, e, q⟩ := h
  unfold fFldS at e
  split at e
  · next d M1 e1 =>
    split at e
    · next o1 M2 e2 =>
      split at e
      · next M3 e3 =>
        cases e
        refine goE E A e1 fun ρ1 v1 H1 x1 A1 r1 => ?_
        refine goE (E.up x1) A1 e2 fun ρ2 v2 H2 x2 A2 r2 => ?_
        obtain ⟨a, C, dx, fs, h1, h2, h3, h4, h5, x3, A3⟩ := fld_put T A2 r2 (r1.up x2) e3
        exact ⟨a, C, dx, fs, h1, h2, h3, h4, h5, q ρ2 σ _ ((x1.trans x2).trans x3) A3 (E.up ((x1.trans x2).trans x3))⟩
      · cases e
    · cases e
  · cases e
def isCls (M : AS) (n c : Nat) : Bool := match M.mem n with
  | some (.ins c' _) => c' == c
  | _ => false
/-- o.f += e (whole numbers) -/
def fFldAug (cs : List Nat) (f : Str) (op : Int → Int → Int) (fo fv : AE) : ASt := fun ds M => match fo ds M with
  | some (.ref n, M1) => match M1.mem n with
    | some (.ins c fs) => if c ∈ cs then match fs.lookup f with
        | some (.int i) => match fv ds M1 with
          | some (.int j, M2) => match fldPut cs f (.ref n) (.int (op i j)) M2 with
            | some M3 => if isCls M2 n c = true then some (.nx, ds, M3) else none
            | none => none
          | _ => none
        | _ => none
      else none
    | _ => none
  | _ => none
theorem s_fldadd {o value : Expr} {f : Str} {cs : List Nat} {fo fv : AE} {pos tpos : Pos} (T : Atr X.K cl cs f) (ho : PE X o (cE X.K cl fo)) (hv : PE X value (cE X.K cl fv)) :
    PS X (.AugAssign (.Attribute o f tpos) .Add value pos) (cS X.K cl (fFldAug cs f (· + ·) fo fv)) := PS.imp (ps_fldaug ho hv in_add) fun Dn σ H h => by
  obtain ⟨ρ, ds, M, fl, ds', M', E, A, e, q⟩ := h
  unfold fFldAug at e
  split at e
  · next n M1 e1 =>
    split at e
    · next c fs hm =>
      split at e
      · next hc =>
        split at e
        · next i hl =>
          split at e
          · next j M2 e2 =>
            split at e
            · next M3 e3 =>
              split at e
              · next hcc =>
                cases e
                refine goE E A e1 fun ρ1 v1 H1 x1 A1 r1 => ?_
                have r1' := r1
                cases r1 with
                | @ref a _ hr =>
                obtain ⟨dx, vf, h1, h2⟩ := A1.at hr hm
                obtain ⟨v, h3, h4⟩ := h2.look hl
                cases h4
                refine ⟨a, cl c, dx, vf, _, rfl, h1, (T.ok c hc).1, (T.ok c hc).2, h3, ?_⟩
                refine goE (E.up x1) A1 e2 fun ρ2 v2 H2 x2 A2 r2 => ?_
                cases r2
                obtain ⟨a', C, dx', fs', g1, g2, g3, g4, g5, x3, A3⟩ := fld_put T A2 (r1'.up x2) (.int (i + j)) e3
                cases g1
                refine ⟨i, j, rfl, rfl, dx', fs', ?_, g5, ?_⟩
                all_goals
                  have hC : C = cl c := by
                    unfold isCls at hcc
                    split at hcc
                    · next c' fs2 hm2 =>
                      have hcc := beq_iff_eq.mp hcc
                      subst hcc
                      obtain ⟨dx2, vf2, k1, k2⟩ := A2.at (x2.re _ _ hr) hm2
                      rw [g2] at k1
                      cases k1
                      rfl
                    · cases hcc
                  subst hC
                · exact g2
                · exact q ρ2 σ _ ((x1.trans x2).trans x3) A3 (E.up ((x1.trans x2).trans x3))
              · cases e
            · cases e
          · cases e
        · cases e
      · cases e
    · cases e
  · cases e
/-- x += e (whole numbers), a local name -/
def fAug (i : Nat) (op : Int → Int → Int) (f : AE) : ASt := fun ds M => match ds[i]? with
  | some (some (.int a)) => match f ds M with
    | some (.int b, M1) => some (.nx, ds.set i (some (.int (op a b))), M1)
    | _ => none
  | _ => none
theorem s_augadd {i : Nat} {x : Str} {e : Expr} {f : AE} {pos pos' : Pos} (hN : X.N.Nodup) (he : PE X e (cE X.K cl f)) (h : ∀ te : TE, PE X e te → PS X (.AugAssign (.Name x pos') .Add e pos) (tAug i te (ipI fun i j => i + j))) :
    PS X (.AugAssign (.Name x pos') .Add e pos) (cS X.K cl (fAug i (· + ·) f)) := PS.imp (h _ he) fun Dn σ H h => by
  obtain ⟨ρ, ds, M, fl, ds', M', E, A, e, q⟩ := h
  unfold fAug at e
  split at e
  · next a ha =>
    split at e
    · next b M1 e1 =>
      cases e
      obtain ⟨v, hv, r⟩ := E.at_ i _ ha
      cases r
      refine ⟨_, hv, goE E A e1 fun ρ1 v1 H1 x1 A1 r1 => ?_⟩
      cases r1
      exact ⟨a, b, rfl, rfl, q ρ1 _ H1 x1 A1 ((E.up x1).set i (.int _))⟩
    · cases e
  · cases e
end
end AL
namespace AL
open PySem L2
section
variable {X : Cx} {cl : Nat → Addr} {K : PySem.W.Frag}

/-! ### what a loop goes over -/
inductive Itr where
  | fix (xs : List D)
  | cell (n : Nat)
  | num (n : Nat)
  | zip2 (n m : Nat)
  | zipM (xs : List D) (n : Nat) (zs : List D)
def itAt : Itr → AS → Nat → Option (Option D)
  | .fix xs, _, i => some xs[i]?
  | .cell n, M, i => match lstOf M (.ref n) with
    | some xs => some xs[i]?
    | none => none
  | .num n, M, i => match lstOf M (.ref n) with
    | some xs => some (match xs[i]? with
      | some x => some (.tup [.int i, x])
      | none => none)
    | none => none
  | .zip2 n m, M, i => match lstOf M (.ref n), lstOf M (.ref m) with
    | some xs, some ys => some (match xs[i]?, ys[i]? with
      | some x, some y => some (.tup [x, y])
      | _, _ => none)
    | _, _ => none
  | .zipM xs n zs, M, i => match lstOf M (.ref n) with
    | some ys => if ys.length = xs.length ∧ zs.length = xs.length then some (match xs[i]?, ys[i]?, zs[i]? with
      | some x, some y, some z => some (.tup [x, y, z])
      | _, _, _ => none) else none
    | none => none
structure ItOk (K : PySem.W.Frag) (cl : Nat → Addr) (J : It) (I : Itr) (ρ0 : Rho) (H0 : Hp) : Prop where
  stop : ∀ ρ H M i, Ext ρ0 H0 ρ H → Abs K cl ρ H M → itAt I M i = some none → J.stop i H
  go : ∀ ρ H M i d, Ext ρ0 H0 ρ H → Abs K cl ρ H M → itAt I M i = some (some d) → J.go i H ∧ ∀ x H', J.yld i H x H' → ∃ ρ', Ext ρ H ρ' H' ∧ Abs K cl ρ' H' M ∧ Rep K ρ' H' x d
abbrev AI := DS → AS → Option (Itr × AS)
def cI (K : PySem.W.Frag) (cl : Nat → Addr) (f : AI) : TI := fun σ H R => ∃ ρ ds M I M', Env K ρ H σ ds ∧ Abs K cl ρ H M ∧ f ds M = some (I, M') ∧ ∀ ρ' H' J, Ext ρ H ρ' H' → Abs K cl ρ' H' M' → ItOk K cl J I ρ' H' → R J H'
theorem PI.imp {X : Cx} {tg e : Expr} {t t' : TI} (h : PI X tg e t) (i : ∀ σ H Q, t' σ H Q → t σ H Q) : PI X tg e t' := ⟨fun pins s σ H R I q => h.run pins s σ H R I (i σ H R q)⟩
theorem PI.or {X : Cx} {tg e : Expr} {t t' : TI} (h : PI X tg e t) (h' : PI X tg e t') : PI X tg e (fun σ H R => t σ H R ∨ t' σ H R) := ⟨fun pins s σ H R I q => q.elim (h.run pins s σ H R I) (h'.run pins s σ H R I)⟩
theorem it_tup {a : Addr} {vs : List V} {xs : List D} {ρ : Rho} {H : Hp} (s : SqT K H a vs) (r : Reps K ρ H vs xs) : ItOk K cl (Itt K a) (.fix xs) ρ H where
  stop := fun ρ1 H1 M i x A e => by
    have : xs[i]? = none := Option.some.inj e
    refine ⟨vs, x.sqT s, ?_⟩
    rw [r.length]
    exact List.getElem?_eq_none_iff.mp this
  go := fun ρ1 H1 M i d x A e => by
    have e : xs[i]? = some d := Option.some.inj e
    obtain ⟨v, h1, h2⟩ := r.get e
    refine ⟨⟨vs, v, x.sqT s, h1⟩, fun y H' hy => ?_⟩
    obtain ⟨rfl, hy⟩ := hy
    have := hy vs (x.sqT s)
    rw [h1] at this
    cases this
    exact ⟨ρ1, Ext.refl _ _, A, h2.up x⟩
theorem it_list {a : Addr} {n : Nat} {ρ : Rho} {H : Hp} (hr : ρ n = some a) : ItOk K cl (Itl K a) (.cell n) ρ H where
  stop := fun ρ1 H1 M i x A e => by
    simp only [itAt] at e
    split at e
    · next xs h =>
      obtain ⟨b, vs, hb, s, rs⟩ := lst_at A (Rep.ref (x.re _ _ hr)) h
      cases hb
      have : xs[i]? = none := Option.some.inj e
      refine ⟨vs, s, ?_⟩
      rw [rs.length]
      exact List.getElem?_eq_none_iff.mp this
    · cases e
  go := fun ρ1 H1 M i d x A e => by
    simp only [itAt] at e
    split at e
    · next xs h =>
      obtain ⟨b, vs, hb, s, rs⟩ := lst_at A (Rep.ref (x.re _ _ hr)) h
      cases hb
      have e : xs[i]? = some d := Option.some.inj e
      obtain ⟨v, h1, h2⟩ := rs.get e
      refine ⟨⟨vs, v, s, h1⟩, fun y H' hy => ?_⟩
      obtain ⟨rfl, hy⟩ := hy
      have := hy vs s
      rw [h1] at this
      cases this
      exact ⟨ρ1, Ext.refl _ _, A, h2⟩
    · cases e
theorem it_num {a : Addr} {n : Nat} {ρ : Rho} {H : Hp} (hr : ρ n = some a) : ItOk K cl (Ite K a) (.num n) ρ H where
  stop := fun ρ1 H1 M i x A e => by
    simp only [itAt] at e
    split at e
    · next xs h =>
      obtain ⟨b, vs, hb, s, rs⟩ := lst_at A (Rep.ref (x.re _ _ hr)) h
      cases hb
      split at e
      · cases e
      · next this =>
        refine ⟨vs, s, ?_⟩
        rw [rs.length]
        exact List.getElem?_eq_none_iff.mp this
    · cases e
  go := fun ρ1 H1 M i d x A e => by
    simp only [itAt] at e
    split at e
    · next xs h =>
      obtain ⟨b, vs, hb, s, rs⟩ := lst_at A (Rep.ref (x.re _ _ hr)) h
      cases hb
      split at e
      · next d' e2 =>
        cases e
        obtain ⟨v, h1, h2⟩ := rs.get e2
        refine ⟨⟨vs, v, s, h1⟩, fun y H' hy => ?_⟩
        obtain ⟨T, y', rfl, hT, rfl, hy⟩ := hy
        have := hy vs s
        rw [h1] at this
        cases this
        have sm : Same H1 (upd H1 T (.tup [.int i, v])) := same_upd hT
        exact ⟨ρ1, Ext.same sm, A.same sm, .tup (.inl (.inl upd_same)) (.cons (.int _) (.cons (h2.up (Ext.same sm)) .nil))⟩
      · cases e
    · cases e
def fItSeq (f : AE) : AI := fun ds M => match f ds M with
  | some (.tup xs, M1) => some (.fix xs, M1)
  | some (.tpc xs, M1) => some (.fix xs, M1)
  | some (.ref n, M1) => match lstOf M1 (.ref n) with
    | some _ => some (.cell n, M1)
    | none => none
  | _ => none
theorem i_seq {tg e : Expr} {f : AE} (he : PE X e (cE X.K cl f)) : PI X tg e (cI X.K cl (fItSeq f)) := PI.imp (PI.or (pi_list he) (pi_tup he)) fun σ H R h => by
  obtain ⟨ρ, ds, M, I, M', E, A, e, q⟩ := h
  unfold fItSeq at e
  split at e
  · next xs M1 e1 =>
    cases e
    refine .inr (goE E A e1 fun ρ1 v1 H1 x1 A1 r1 => ?_)
    cases r1 with
    | @tup a vs _ s rs =>
    exact ⟨a, rfl, ⟨vs, s⟩, q ρ1 H1 _ x1 A1 (it_tup s rs)⟩
  · next xs M1 e1 =>
    cases e
    refine .inr (goE E A e1 fun ρ1 v1 H1 x1 A1 r1 => ?_)
    cases r1 with
    | @tpc a vs _ o s z rs =>
    have s' : SqT X.K H1 a vs := .inl (.inr ⟨_, s⟩)
    exact ⟨a, rfl, ⟨vs, s'⟩, q ρ1 H1 _ x1 A1 (it_tup s' rs)⟩
  · next n M1 e1 =>
    split at e
    · next xs h =>
      cases e
      refine .inl (goE E A e1 fun ρ1 v1 H1 x1 A1 r1 => ?_)
      obtain ⟨a, vs, rfl, s, rs⟩ := lst_at A1 r1 h
      cases r1 with
      | ref hr => exact ⟨a, rfl, ⟨vs, s⟩, q ρ1 H1 _ x1 A1 (it_list hr)⟩
    · cases e
  · cases e

/-! ranges -/
def rngD (lo c : Int) (n : Nat) : List D := (List.range n).map fun i => .int (lo + (i : Nat) * c)
theorem rngD_get {lo c : Int} {n i : Nat} : (rngD lo c n)[i]? = if i < n then some (.int (lo + (i : Nat) * c)) else none := by
  unfold rngD
  rw [List.getElem?_map]
  by_cases h : i < n
  · rw [if_pos h, List.getElem?_range h] <;> rfl
  · rw [if_neg h, List.getElem?_eq_none (by rw [List.length_range]; omega)] <;> rfl
theorem it_rng {lo : Int} {n : Nat} {ρ : Rho} {H : Hp} : ItOk K cl (L2.Itr lo n) (.fix (rngD lo 1 n)) ρ H where
  stop := fun ρ1 H1 M i x A e => by
    have e : (rngD lo 1 n)[i]? = none := Option.some.inj e
    rw [rngD_get] at e
    split at e
    · cases e
    · next h => exact Nat.le_of_not_lt h
  go := fun ρ1 H1 M i d x A e => by
    have e : (rngD lo 1 n)[i]? = some d := Option.some.inj e
    rw [rngD_get] at e
    split at e
    · next h =>
      cases e
      refine ⟨h, fun y H' hy => ?_⟩
      obtain ⟨rfl, rfl⟩ := hy
      rw [Int.mul_one]
      exact ⟨ρ1, Ext.refl _ _, A, .int _⟩
    · cases e
theorem it_rngC {lo c : Int} {n : Nat} {ρ : Rho} {H : Hp} : ItOk K cl (Itc lo c n) (.fix (rngD lo c n)) ρ H where
  stop := fun ρ1 H1 M i x A e => by
    have e : (rngD lo c n)[i]? = none := Option.some.inj e
    rw [rngD_get] at e
    split at e
    · cases e
    · next h => exact Nat.le_of_not_lt h
  go := fun ρ1 H1 M i d x A e => by
    have e : (rngD lo c n)[i]? = some d := Option.some.inj e
    rw [rngD_get] at e
    split at e
    · next h =>
      cases e
      refine ⟨h, fun y H' hy => ?_⟩
      obtain ⟨rfl, rfl⟩ := hy
      exact ⟨ρ1, Ext.refl _ _, A, .int _⟩
    · cases e
abbrev rlim (i : Int) : Prop := -(2 ^ 62) ≤ i ∧ i < 2 ^ 62
def fRng1 (g : AA) : AI := fun ds M => match g ds M with
  | some ([.int j], M1) => if rlim j then some (.fix (rngD 0 1 j.toNat), M1) else none
  | _ => none
theorem i_range1 {tg a : Expr} {g : AA} {p pos : Pos} (hm : X.mg "range" = none) (ha : PA X [a] (cA X.K cl g)) (hg : Gl X "range" := by rfl) (hs : starEach [a] X.env = [(false, eval a X.env)] := by rfl) :
    PI X tg (.Call (.Name "range" p) [a] [] pos) (cI X.K cl (fRng1 g)) := PI.imp (pi_range1 hg hm ha hs) fun σ H R h => by
  obtain ⟨ρ, ds, M, I, M', E, A, e, q⟩ := h
  unfold fRng1 at e
  split at e
  · next j M1 e1 =>
    split at e
    · next hl =>
      cases e
      refine goA E A e1 fun ρ1 vs H1 x1 A1 r1 => ?_
      obtain ⟨v, rfl, r⟩ := reps1 r1
      cases r
      exact ⟨j, rfl, hl.1, hl.2, q ρ1 H1 _ x1 A1 it_rng⟩
    · cases e
  · cases e
def fRng2 (g : AA) : AI := fun ds M => match g ds M with
  | some ([.int i, .int j], M1) => if rlim i ∧ rlim j then some (.fix (rngD i 1 (j - i).toNat), M1) else none
  | _ => none
theorem i_range2 {tg a b : Expr} {g : AA} {p pos : Pos} (hm : X.mg "range" = none) (ha : PA X [a, b] (cA X.K cl g)) (hg : Gl X "range" := by rfl) (hs : starEach [a, b] X.env = [(false, eval a X.env), (false, eval b X.env)] := by rfl)
    (hs2 : starEach [b] X.env = [(false, eval b X.env)] := by rfl) : PI X tg (.Call (.Name "range" p) [a, b] [] pos) (cI X.K cl (fRng2 g)) := PI.imp (pi_range2 hg hm ha hs hs2) fun σ H R h => by
  obtain ⟨ρ, ds, M, I, M', E, A, e, q⟩ := h
  unfold fRng2 at e
  split at e
  · next i j M1 e1 =>
    split at e
    · next hl =>
      cases e
      refine goA E A e1 fun ρ1 vs H1 x1 A1 r1 => ?_
      obtain ⟨v, w, rfl, r, r'⟩ := reps2 r1
      cases r; cases r'
      exact ⟨i, j, rfl, ⟨hl.1.1, hl.1.2, hl.2.1, hl.2.2⟩, q ρ1 H1 _ x1 A1 it_rng⟩
    · cases e
  · cases e
def fRng3 (g : AA) : AI := fun ds M => match g ds M with
  | some ([.int i, .int j, .int c], M1) => if c ≠ 0 ∧ c.natAbs < 1073741824 ∧ Builtin.Range.small i j c = true ∧ 0 ≤ Builtin.Range.rangeSize i j c then some (.fix (rngD i c (Builtin.Range.rangeSize i j c).toNat), M1) else none
  | _ => none

/-! ### loops -/
def fLoop (I : Itr) (g : AG) (b : ASt) : Nat → Nat → ASt
  | 0, _, _, _ => none
  | k + 1, i, ds, M => match itAt I M i with
    | none => none
    | some none => some (.nx, ds, M)
    | some (some x) => match g x ds M with
      | none => none
      | some (ds1, M1) => match b ds1 M1 with
        | some (.nx, ds2, M2) => fLoop I g b k (i + 1) ds2 M2
        | some (.ct, ds2, M2) => fLoop I g b k (i + 1) ds2 M2
        | some (.bk, ds2, M2) => some (.nx, ds2, M2)
        | some (.rt d, ds2, M2) => some (.rt d, ds2, M2)
        | none => none
def fuelOf : Itr → Nat
  | .fix xs => xs.length + 1
  | .zipM xs _ _ => xs.length + 1
  | _ => 100000
def fFor (fi : AI) (g : AG) (b : ASt) : ASt := fun ds M => match fi ds M with
  | some (I, M1) => fLoop I g b (fuelOf I) 0 ds M1
  | none => none
def WFor (K : PySem.W.Frag) (cl : Nat → Addr) (I : Itr) (g : AG) (b : ASt) (Dn : Ends) (ρ0 : Rho) (H0 : Hp) (i m : Nat) (σ : L2.St) (H : Hp) : Prop :=
  ∃ ρ ds M fl ds' M', Ext ρ0 H0 ρ H ∧ Env K ρ H σ ds ∧ Abs K cl ρ H M ∧ fLoop I g b m i ds M = some (fl, ds', M') ∧ ∀ ρ' σ' H', Ext ρ H ρ' H' → Abs K cl ρ' H' M' → Env K ρ' H' σ' ds' → endOf K Dn fl ρ' σ' H'
theorem c_for {fi : AI} {g : AG} {b : ASt} (Dn : Ends) (σ : L2.St) (H : Hp) (h : cS K cl (fFor fi g b) Dn σ H) : tFor (cI K cl fi) (cG K cl g) (cS K cl b) Dn σ H := by
  obtain ⟨ρ, ds, M, fl, ds', M', E, A, e, q⟩ := h
  unfold fFor at e
  split at e
  · next I M1 e1 =>
    refine ⟨ρ, ds, M, I, M1, E, A, e1, fun ρ1 H1 J x1 A1 ok => ?_⟩
    refine ⟨WFor K cl I g b Dn ρ1 H1, ⟨fuelOf I, ρ1, ds, M1, fl, ds', M', Ext.refl _ _, E.up x1, A1, e, fun ρ2 σ2 H2 x2 A2 E2 => q ρ2 σ2 H2 (x1.trans x2) A2 E2⟩, ?_⟩
    rintro i m σ' H' ⟨ρ2, ds2, M2, fl2, ds3, M3, x2, E2, A2, e2, q2⟩
    cases m with
    | zero => cases e2
    | succ m =>
      simp only [fLoop] at e2
      split at e2
      · cases e2
      · next e3 =>
        cases e2
        exact .inl ⟨ok.stop ρ2 H' M2 i x2 A2 e3, q2 ρ2 σ' H' (Ext.refl _ _) A2 E2⟩
      · next x e3 =>
        split at e2
        · cases e2
        · next ds4 M4 e4 =>
          obtain ⟨go, yl⟩ := ok.go ρ2 H' M2 i x x2 A2 e3
          refine .inr ⟨go, WFor K cl I g b Dn ρ1 H1 (i + 1) m, fun σ5 H5 w5 => ⟨m, Nat.lt_succ_self m, w5⟩, fun y H5 hy => ?_⟩
          obtain ⟨ρ5, x5, A5, r5⟩ := yl y H5 hy
          refine ⟨ρ5, ds2, M2, x, ds4, M4, E2.up x5, A5, r5, e4, fun ρ6 σ6 H6 x6 A6 E6 => ?_⟩
          split at e2
          · next ds7 M7 e7 =>
            refine ⟨ρ6, ds4, M4, .nx, ds7, M7, E6, A6, e7, fun ρ8 σ8 H8 x8 A8 E8 => ?_⟩
            exact ⟨ρ8, ds7, M7, fl2, ds3, M3, ((x2.trans x5).trans x6).trans x8, E8, A8, e2, fun ρ9 σ9 H9 x9 A9 E9 => q2 ρ9 σ9 H9 (((x5.trans x6).trans x8).trans x9) A9 E9⟩
          · next ds7 M7 e7 =>
            refine ⟨ρ6, ds4, M4, .ct, ds7, M7, E6, A6, e7, fun ρ8 σ8 H8 x8 A8 E8 => ?_⟩
            exact ⟨ρ8, ds7, M7, fl2, ds3, M3, ((x2.trans x5).trans x6).trans x8, E8, A8, e2, fun ρ9 σ9 H9 x9 A9 E9 => q2 ρ9 σ9 H9 (((x5.trans x6).trans x8).trans x9) A9 E9⟩
          · next ds7 M7 e7 =>
            cases e2
            refine ⟨ρ6, ds4, M4, .bk, _, _, E6, A6, e7, fun ρ8 σ8 H8 x8 A8 E8 => ?_⟩
            exact q2 ρ8 σ8 H8 ((x5.trans x6).trans x8) A8 E8
          · next d ds7 M7 e7 =>
            cases e2
            refine ⟨ρ6, ds4, M4, .rt d, _, _, E6, A6, e7, fun ρ8 σ8 H8 x8 A8 E8 => ?_⟩
            exact q2 ρ8 σ8 H8 ((x5.trans x6).trans x8) A8 E8
          · cases e2
  · cases e
theorem s_for {tg iter : Expr} {body : List Stmt} {fi : AI} {g : AG} {b : ASt} {pos : Pos} (hp : PassesOwn (model X.prog X.w) X.A X.env X.xe) (hc : X.calm = true) (hi : PI X tg iter (cI X.K cl fi)) (hg : PG X tg (cG X.K cl g)) (hb : PSs X body (cS X.K cl b))
    (hs : ∀ x, foldedSetIterable iter X.env x = pure x := by intro _; rfl) : PS X (.For tg iter body [] pos) (cS X.K cl (fFor fi g b)) := PS.imp (ps_for hp hc hi hg hb hs) c_for
/-- while -/
def fWh (t : AT) (b : ASt) : Nat → ASt
  | 0, _, _ => none
  | k + 1, ds, M => match t ds M with
    | none => none
    | some (false, M1) => some (.nx, ds, M1)
    | some (true, M1) => match b ds M1 with
      | some (.nx, ds2, M2) => fWh t b k ds2 M2
      | some (.ct, ds2, M2) => fWh t b k ds2 M2
      | some (.bk, ds2, M2) => some (.nx, ds2, M2)
      | some (.rt d, ds2, M2) => some (.rt d, ds2, M2)
      | none => none
def WWh (K : PySem.W.Frag) (cl : Nat → Addr) (t : AT) (b : ASt) (Dn : Ends) (m : Nat) (σ : L2.St) (H : Hp) : Prop :=
  ∃ ρ ds M fl ds' M', Env K ρ H σ ds ∧ Abs K cl ρ H M ∧ fWh t b m ds M = some (fl, ds', M') ∧ ∀ ρ' σ' H', Ext ρ H ρ' H' → Abs K cl ρ' H' M' → Env K ρ' H' σ' ds' → endOf K Dn fl ρ' σ' H'
end
end AL
namespace AL
open PySem L2
section
variable {X : Cx} {cl : Nat → Addr} {K : PySem.W.Frag}

theorem c_while {n : Nat} {t : AT} {b : ASt} (Dn : Ends) (σ : L2.St) (H : Hp) (h : cS K cl (fWh t b n) Dn σ H) : tWhile (cT K cl t) (cS K cl b) Dn σ H := by
  obtain ⟨ρ, ds, M, fl, ds', M', E, A, e, q⟩ := h
  refine ⟨WWh K cl t b Dn, ⟨n, ρ, ds, M, fl, ds', M', E, A, e, q⟩, ?_⟩
  rintro m σ' H' ⟨ρ2, ds2, M2, fl2, ds3, M3, E2, A2, e2, q2⟩
  cases m with
  | zero => cases e2
  | succ m =>
    simp only [fWh] at e2
    split at e2
    · cases e2
    · next M4 e4 =>
      cases e2
      exact ⟨ρ2, ds2, M2, false, _, E2, A2, e4, fun ρ5 H5 x5 A5 => q2 ρ5 σ' H5 x5 A5 (E2.up x5)⟩
    · next M4 e4 =>
      refine ⟨ρ2, ds2, M2, true, M4, E2, A2, e4, fun ρ5 H5 x5 A5 => ?_⟩
      refine ⟨WWh K cl t b Dn m, fun σ6 H6 w6 => ⟨m, Nat.lt_succ_self m, w6⟩, ?_⟩
      split at e2
      · next ds7 M7 e7 =>
        refine ⟨ρ5, ds2, M4, .nx, ds7, M7, E2.up x5, A5, e7, fun ρ8 σ8 H8 x8 A8 E8 => ?_⟩
        exact ⟨ρ8, ds7, M7, fl2, ds3, M3, E8, A8, e2, fun ρ9 σ9 H9 x9 A9 E9 => q2 ρ9 σ9 H9 ((x5.trans x8).trans x9) A9 E9⟩
      · next ds7 M7 e7 =>
        refine ⟨ρ5, ds2, M4, .ct, ds7, M7, E2.up x5, A5, e7, fun ρ8 σ8 H8 x8 A8 E8 => ?_⟩
        exact ⟨ρ8, ds7, M7, fl2, ds3, M3, E8, A8, e2, fun ρ9 σ9 H9 x9 A9 E9 => q2 ρ9 σ9 H9 ((x5.trans x8).trans x9) A9 E9⟩
      · next ds7 M7 e7 =>
        cases e2
        exact ⟨ρ5, ds2, M4, .bk, _, _, E2.up x5, A5, e7, fun ρ8 σ8 H8 x8 A8 E8 => q2 ρ8 σ8 H8 (x5.trans x8) A8 E8⟩
      · next d ds7 M7 e7 =>
        cases e2
        exact ⟨ρ5, ds2, M4, .rt d, _, _, E2.up x5, A5, e7, fun ρ8 σ8 H8 x8 A8 E8 => q2 ρ8 σ8 H8 (x5.trans x8) A8 E8⟩
      · cases e2
theorem s_while (n : Nat) {c : Expr} {body : List Stmt} {t : AT} {b : ASt} {pos : Pos} (hp : PassesOwn (model X.prog X.w) X.A X.env X.xe) (hc : PT X c (cT X.K cl t)) (hb : PSs X body (cS X.K cl b)) : PS X (.While c body [] pos) (cS X.K cl (fWh t b n)) := PS.imp (ps_while hp hc hb) c_while

/-- range by steps -/
theorem i_range3 {tg a b c : Expr} {g : AA} {p pos : Pos} (hm : X.mg "range" = none) (h : ∀ ta : TA, PA X [a, b, c] ta → PI X tg (.Call (.Name "range" p) [a, b, c] [] pos) (iRng3 ta)) (ha : PA X [a, b, c] (cA X.K cl g)) :
    PI X tg (.Call (.Name "range" p) [a, b, c] [] pos) (cI X.K cl (fRng3 g)) := PI.imp (h _ ha) fun σ H R h => by
  obtain ⟨ρ, ds, M, I, M', E, A, e, q⟩ := h
  unfold fRng3 at e
  split at e
  · next i j c M1 e1 =>
    split at e
    · next hl =>
      cases e
      refine goA E A e1 fun ρ1 vs H1 x1 A1 r1 => ?_
      obtain ⟨v, w, u, rfl, r, r', r''⟩ := reps3 r1
      cases r; cases r'; cases r''
      refine ⟨i, j, c, (Builtin.Range.rangeSize i j c).toNat, rfl, ⟨hl.1, hl.2.1, hl.2.2.1, ?_⟩, q ρ1 H1 _ x1 A1 it_rngC⟩
      exact (Int.toNat_of_nonneg hl.2.2.2).symm
    · cases e
  · cases e

/-! ### comprehensions -/
theorem wipe_get (σ : L2.St) : ∀ (vs : List Nat) (i : Nat), (wipe σ vs)[i]? = if i ∈ vs then (σ[i]?).map (fun _ => none) else σ[i]?
  | [], i => by simp [wipe]
  | v :: vs, i => by
    have ih := wipe_get σ vs i
    show ((wipe σ vs).set v none)[i]? = _
    by_cases h : v = i
    · subst h
      rw [if_pos (List.mem_cons_self ..)]
      by_cases hl : v < σ.length
      · rw [List.getElem?_set_self (by rw [wipe_length]; exact hl), List.getElem?_eq_getElem hl]
        rfl
      · rw [List.getElem?_eq_none (by rw [List.length_set, wipe_length]; omega), List.getElem?_eq_none (by omega)]
        rfl
    · rw [List.getElem?_set_ne h, ih]
      by_cases hm : i ∈ vs
      · rw [if_pos hm, if_pos (List.mem_cons_of_mem _ hm)]
      · rw [if_neg hm, if_neg (by simp [hm]; exact fun z => h z.symm)]
theorem wipe_set {σ : L2.St} {vs : List Nat} {j : Nat} {o : Option V} (h : j ∈ vs) : wipe (σ.set j o) vs = wipe σ vs := by
  apply List.ext_getElem?
  intro i
  rw [wipe_get, wipe_get]
  by_cases hi : i ∈ vs
  · rw [if_pos hi, if_pos hi]
    by_cases hj : j = i
    · subst hj
      by_cases hl : j < σ.length
      · rw [List.getElem?_set_self hl, List.getElem?_eq_getElem hl]
        rfl
      · rw [List.getElem?_eq_none (by rw [List.length_set]; omega), List.getElem?_eq_none (by omega)]
    · rw [List.getElem?_set_ne hj]
  · rw [if_neg hi, if_neg hi, List.getElem?_set_ne (fun z => hi (by rw [← z]; exact h))]
theorem wipe_wipe {σ : L2.St} {vs : List Nat} : wipe (wipe σ vs) vs = wipe σ vs := by
  apply List.ext_getElem?
  intro i
  rw [wipe_get, wipe_get]
  by_cases hi : i ∈ vs
  · rw [if_pos hi, if_pos hi]
    cases σ[i]? <;> rfl
  · rw [if_neg hi, if_neg hi]
def wipeD (ds : DS) : List Nat → DS
  | [] => ds
  | v :: vs => (wipeD ds vs).set v none
theorem Env.wipe {ρ : Rho} {H : Hp} {σ : L2.St} {ds : DS} (E : Env K ρ H σ ds) : ∀ vs : List Nat, Env K ρ H (L2.wipe σ vs) (wipeD ds vs)
  | [] => E
  | v :: vs => by
    have ih := Env.wipe E vs
    refine ⟨by show ((L2.wipe σ vs).set v none).length = ((wipeD ds vs).set v none).length; rw [List.length_set, List.length_set]; exact ih.len, fun i d h => ?_⟩
    show ∃ w, ((L2.wipe σ vs).set v none)[i]? = _ ∧ _
    have h : ((wipeD ds vs).set v none)[i]? = some (some d) := h
    by_cases hv : v = i
    · subst hv
      by_cases hl : v < (wipeD ds vs).length
      · rw [List.getElem?_set_self hl] at h
        cases h
      · rw [List.getElem?_eq_none (by rw [List.length_set]; omega)] at h
        cases h
    · rw [List.getElem?_set_ne hv] at h ⊢
      exact ih.at_ i d h
/-- a comprehension's target: names of its own -/
structure CTg (K : PySem.W.Frag) (cl : Nat → Addr) (vs : List Nat) (g : TG) (ga : AG) : Prop where
  run : ∀ (ρ : Rho) (H : Hp) (σ σ0 : L2.St) (ds : DS) (M : AS) (x : V) (d : D) (ds1 : DS) (M1 : AS) (Q : L2.St → Hp → Prop), Env K ρ H σ ds → Rep K ρ H x d → ga d ds M = some (ds1, M1) → L2.wipe σ vs = σ0 →
    (∀ σ2, Env K ρ H σ2 ds1 → L2.wipe σ2 vs = σ0 → M1 = M → Q σ2 H) → g x σ H Q
theorem ct_name {vs : List Nat} {j : Nat} (h : j ∈ vs) : CTg K cl vs (gName j) (gN j) := ⟨fun ρ H σ σ0 ds M x d ds1 M1 Q E r e w q => by
  cases e
  exact q _ (E.set j r) (by rw [wipe_set h]; exact w) rfl⟩
/-- several names -/
structure CTgs (K : PySem.W.Frag) (cl : Nat → Addr) (vs : List Nat) (g : TGs) (ga : AGs) : Prop where
  run : ∀ (ρ : Rho) (H : Hp) (σ σ0 : L2.St) (ds : DS) (M : AS) (xs : List V) (es : List D) (ds1 : DS) (M1 : AS) (Q : L2.St → Hp → Prop), Env K ρ H σ ds → Reps K ρ H xs es → ga es ds M = some (ds1, M1) → L2.wipe σ vs = σ0 →
    (∀ σ2, Env K ρ H σ2 ds1 → L2.wipe σ2 vs = σ0 → M1 = M → Q σ2 H) → g xs σ H Q
theorem cts_nil {vs : List Nat} : CTgs K cl vs gNil gsNil := ⟨fun ρ H σ σ0 ds M xs es ds1 M1 Q E r e w q => by
  unfold gsNil at e
  split at e
  · cases e
    cases r
    exact ⟨rfl, q _ E w rfl⟩
  · cases e⟩
theorem cts_cons {vs : List Nat} {g : TG} {ga : AG} {gs : TGs} {gas : AGs} (h : CTg K cl vs g ga) (k : CTgs K cl vs gs gas) : CTgs K cl vs (gCons g gs) (gsCons ga gas) := ⟨fun ρ H σ σ0 ds M xs es ds1 M1 Q E r e w q => by
  unfold gsCons at e
  split at e
  · next d es2 =>
    split at e
    · next ds2 M2 e2 =>
      cases r with
      | @cons v vs2 _ _ r1 r2 =>
      refine ⟨v, vs2, rfl, h.run ρ H σ σ0 ds M v d ds2 M2 _ E r1 e2 w fun σ2 E2 w2 eM => ?_⟩
      subst eM
      exact k.run ρ H σ2 σ0 ds2 M2 vs2 es2 ds1 M1 Q E2 r2 e w2 q
    · cases e
  · cases e⟩
theorem ct_tup {vs : List Nat} {n : Nat} {gs : TGs} {gas : AGs} (h : CTgs K cl vs gs gas) : CTg K cl vs (gTup K n gs) (gTupD n gas) := ⟨fun ρ H σ σ0 ds M x d ds1 M1 Q E r e w q => by
  unfold gTupD at e
  split at e
  · next es =>
    split at e
    · next hl =>
      cases r with
      | @tup a ws _ s rs =>
      exact ⟨a, ws, rfl, s, by rw [rs.length]; exact hl, h.run ρ H σ σ0 ds M ws es ds1 M1 Q E rs e w q⟩
    · cases e
  · cases e⟩
def lcLoop (I : Itr) (g : AG) (t : AT) (f : AE) (n0 : Nat) (ds : DS) : Nat → Nat → AS → Option AS
  | 0, _, _ => none
  | k + 1, i, M => match itAt I M i with
    | none => none
    | some none => some M
    | some (some x) => match g x ds M with
      | none => none
      | some (ds1, M1) => match t ds1 M1 with
        | none => none
        | some (false, M2) => lcLoop I g t f n0 ds k (i + 1) M2
        | some (true, M2) => match f ds1 M2 with
          | none => none
          | some (y, M3) => match M3.mem n0 with
            | some (.lst acc) => if acc.length < big then lcLoop I g t f n0 ds k (i + 1) (M3.set n0 (.lst (acc ++ [y]))) else none
            | _ => none
def fLc (fi : AI) (g : AG) (t : AT) (f : AE) (vs : List Nat) : AE := fun ds M => match fi ds M with
  | some (I, M1) => match lcLoop I g t f M1.nx (wipeD ds vs) (fuelOf I) 0 (M1.new (.lst [])) with
    | some M2 => some (.ref M1.nx, M2)
    | none => none
  | none => none
def WLc (K : PySem.W.Frag) (cl : Nat → Addr) (I : Itr) (g : AG) (t : AT) (f : AE) (n0 : Nat) (Dd : Addr) (ds : DS) (ρ0 : Rho) (H0 : Hp) (Q : VK) (i m : Nat) (H : Hp) : Prop :=
  ∃ ρ M M', Ext ρ0 H0 ρ H ∧ Abs K cl ρ H M ∧ ρ n0 = some Dd ∧ lcLoop I g t f n0 ds m i M = some M' ∧ ∀ ρ' H', Ext ρ H ρ' H' → Abs K cl ρ' H' M' → Q (.ref Dd) H'
theorem big_lt {n : Nat} (h : n < big) : n < sizeLine := Nat.lt_trans h (by decide)
theorem c_lc {fi : AI} {g : TG} {ga : AG} {t : AT} {f : AE} {vs : List Nat} (hg : CTg K cl vs g ga) (σ : L2.St) (H : Hp) (Q : VK) (h : cE K cl (fLc fi ga t f vs) σ H Q) : tLc (cI K cl fi) g (cT K cl t) (cE K cl f) vs σ H Q := by
  obtain ⟨ρ, ds, M, d, M', E, A, e, q⟩ := h
  unfold fLc at e
  split at e
  · next I M1 e1 =>
    split at e
    · next M2 e2 =>
      cases e
      refine ⟨ρ, ds, M, I, M1, E, A, e1, fun ρ1 H1 J x1 A1 ok => fun Dd hD => ?_⟩
      have sm : Same H1 (upd H1 Dd (.lst [])) := same_upd hD
      have x2 := A1.ext_new sm Dd
      have A2 : Abs K cl (rhoNew ρ1 M1.nx Dd) (upd H1 Dd (.lst [])) (M1.new (.lst [])) := A1.new sm hD ⟨[], upd_same, .nil⟩
      have Ew := (E.up x1).wipe vs
      refine ⟨WLc K cl I ga t f M1.nx Dd (wipeD ds vs) ρ1 H1 Q, ⟨fuelOf I, rhoNew ρ1 M1.nx Dd, _, _, x2, A2, rhoNew_same, e2, fun ρ3 H3 x3 A3 => ?_⟩, ?_⟩
      · exact q ρ3 _ H3 ((x1.trans x2).trans x3) A3 (.ref (x3.re _ _ rhoNew_same))
      rintro i m H' ⟨ρ3, M3, M4, x3, A3, hr, e3, q3⟩
      cases m with
      | zero => cases e3
      | succ m =>
        simp only [lcLoop] at e3
        split at e3
        · cases e3
        · next e4 =>
          cases e3
          exact .inl ⟨ok.stop ρ3 H' M3 i x3 A3 e4, q3 ρ3 H' (Ext.refl _ _) A3⟩
        · next x e4 =>
          split at e3
          · cases e3
          · next ds5 M5 e5 =>
            obtain ⟨go, yl⟩ := ok.go ρ3 H' M3 i x x3 A3 e4
            refine .inr ⟨go, WLc K cl I ga t f M1.nx Dd (wipeD ds vs) ρ1 H1 Q (i + 1) m, fun H6 w6 => ⟨m, Nat.lt_succ_self m, w6⟩, fun y H6 hy => ?_⟩
            obtain ⟨ρ6, x6, A6, r6⟩ := yl y H6 hy
            refine hg.run ρ6 H6 (L2.wipe σ vs) (L2.wipe σ vs) (wipeD ds vs) M3 y x ds5 M5 _ (Ew.up (x3.trans x6)) r6 e5 wipe_wipe fun σ7 E7 w7 eM => ?_
            subst eM
            refine ⟨w7, ?_⟩
            split at e3
            · cases e3
            · next M8 e8 =>
              refine goT E7 A6 e8 fun ρ9 H9 x9 A9 => ?_
              exact ⟨ρ9, M8, M4, (x3.trans x6).trans x9, A9, x9.re _ _ (x6.re _ _ hr), e3, fun ρa Ha xa Aa => q3 ρa Ha ((x6.trans x9).trans xa) Aa⟩
            · next M8 e8 =>
              refine goT E7 A6 e8 fun ρ9 H9 x9 A9 => ?_
              split at e3
              · cases e3
              · next z Ma ea =>
                refine goE (E7.up x9) A9 ea fun ρb v Hb xb Ab rb => ?_
                split at e3
                · next acc hm =>
                  split at e3
                  · next hz =>
                    have hrb := xb.re _ _ (x9.re _ _ (x6.re _ _ hr))
                    obtain ⟨ws, h1, rs⟩ := Ab.at hrb hm
                    refine ⟨ws, h1, by rw [rs.length]; exact big_lt hz, ?_⟩
                    have xc : Ext ρb Hb ρb (upd Hb Dd (.lst (ws ++ [v]))) := Ab.ext_write hrb hm trivial
                    have Ac := Ab.write (c' := .lst (acc ++ [z])) (o' := .lst (ws ++ [v])) hrb hm trivial trivial ⟨_, upd_same, (rs.append (.cons rb .nil)).up xc⟩
                    exact ⟨ρb, _, M4, (((x3.trans x6).trans x9).trans xb).trans xc, Ac, hrb, e3, fun ρd Hd xd Ad => q3 ρd Hd ((((x6.trans x9).trans xb).trans xc).trans xd) Ad⟩
                  · cases e3
                · cases e3
    · cases e
  · cases e
def tYesA : AT := fun _ M => some (true, M)
theorem pts0 : PTs X [] (cT X.K cl tYesA) := ⟨fun pins s σ H Q I h => by
  obtain ⟨ρ, ds, M, b, M', E, A, e, q⟩ := h
  cases e
  exact pts_nil.run pins s σ H Q I (q ρ H (Ext.refl _ _) A)⟩
theorem pts1 {c : Expr} {t : AT} (h : PT X c (cT X.K cl t)) : PTs X [c] (cT X.K cl t) := pts_one h
theorem a_lc {elt tg iter : Expr} {ifs : List Expr} {scope : Scope} {own : List (Str × Nat)} {pos : Pos} {fi : AI} {g : TG} {ga : AG} {t : AT} {f : AE} (hc : X.calm = true) (hN : X.N.Nodup) (hi : PI X tg iter (cI X.K cl fi)) (ok : BlkOk X.N X.env.scope scope own)
    (hga : CTg X.K cl (own.map (·.2)) g ga)
    (hg : ∀ (s : Shared) (H : Hp) (C : Addr) (cl' : List (Str × Addr)) (fp : List Addr), PG (X.blk s H scope (compEnvC scope cl' C X.env) fp) tg g) (ht : ∀ (s : Shared) (H : Hp) (C : Addr) (cl' : List (Str × Addr)) (fp : List Addr), PTs (X.blk s H scope (compEnvC scope cl' C X.env) fp) ifs (cT X.K cl t))
    (he : ∀ (s : Shared) (H : Hp) (C : Addr) (cl' : List (Str × Addr)) (fp : List Addr), PE (X.blk s H scope (compEnvC scope cl' C X.env) fp) elt (cE X.K cl f)) (hs : ∀ x, foldedSetIterable iter X.env x = pure x := by intro _; rfl) :
    PE X (.ListComp elt [⟨tg, iter, ifs, 0⟩] scope pos) (cE X.K cl (fLc fi ga t f (own.map (·.2)))) := PE.imp (pe_lc hc hN hi ok hg ht he hs) (c_lc hga)
theorem s_setLc {i : Nat} {y : Str} {py : Pos} {elt tg iter : Expr} {ifs : List Expr} {scope : Scope} {own : List (Str × Nat)} {pos spos : Pos} {fi : AI} {g : TG} {ga : AG} {t : AT} {f : AE} (hc : X.calm = true) (hN : X.N.Nodup) (hi : PI X tg iter (cI X.K cl fi)) (ok : BlkOk X.N X.env.scope scope own)
    (hga : CTg X.K cl (own.map (·.2)) g ga)
    (hg : ∀ (s : Shared) (H : Hp) (C : Addr) (cl' : List (Str × Addr)) (fp : List Addr), PG (X.blk s H scope (compEnvC scope cl' C X.env) fp) tg g) (ht : ∀ (s : Shared) (H : Hp) (C : Addr) (cl' : List (Str × Addr)) (fp : List Addr), PTs (X.blk s H scope (compEnvC scope cl' C X.env) fp) ifs (cT X.K cl t))
    (he : ∀ (s : Shared) (H : Hp) (C : Addr) (cl' : List (Str × Addr)) (fp : List Addr), PE (X.blk s H scope (compEnvC scope cl' C X.env) fp) elt (cE X.K cl f))
    (hsw : swapsWith (.ListComp elt [⟨tg, iter, ifs, 0⟩] scope pos) (some (.Name y py)) spos.line X.env = pure true) (hyl : X.env.scope.names.lookup y = some .local := by rfl) (hy : X.N[i]? = some y := by rfl) (hs : ∀ x, foldedSetIterable iter X.env x = pure x := by intro _; rfl) :
    PS X (.Assign [.Name y py] (.ListComp elt [⟨tg, iter, ifs, 0⟩] scope pos) spos) (cS X.K cl (fAsg (fLc fi ga t f (own.map (·.2))) (gN i))) := PS.imp (ps_setLc hc hN hy hyl hsw hi ok hg ht he hs) fun Dn σ H h => by
  obtain ⟨ρ, ds, M, fl, ds', M', E, A, e, q⟩ := h
  unfold fAsg gN at e
  split at e
  · next d M1 e1 =>
    cases e
    exact c_lc hga σ H _ (goE E A e1 fun ρ1 v1 H1 x1 A1 r1 => q ρ1 _ H1 x1 A1 ((E.up x1).set i r1))
  · cases e

/-! ### a def -/
def fnA (n : Nat) (fb : ASt) : AF := fun es M => match fb (es.map some ++ List.replicate (n - es.length) none) M with
  | some (.rt d, _, M') => some (d, M')
  | some (.nx, _, M') => some (.non, M')
  | _ => none
theorem env_start {ρ : Rho} {H : Hp} {N : List Str} {vs : List V} {es : List D} (r : Reps K ρ H vs es) : Env K ρ H (L2.start N vs) (es.map some ++ List.replicate (N.length - es.length) none) := by
  have hl := r.length
  refine ⟨?_, fun i d h => ?_⟩
  · unfold L2.start
    rw [List.length_append, List.length_append, List.length_map, List.length_map, List.length_replicate, List.length_replicate, hl]
  · unfold L2.start
    by_cases hi : i < es.length
    · rw [List.getElem?_append_left (by rw [List.length_map]; exact hi), List.getElem?_map] at h
      rw [List.getElem?_append_left (by rw [List.length_map, hl]; exact hi), List.getElem?_map]
      cases he : es[i]? with
      | none => rw [he] at h; cases h
      | some d' =>
        rw [he] at h
        cases h
        obtain ⟨v, h1, h2⟩ := r.get he
        exact ⟨v, by rw [h1] <;> rfl, h2⟩
    · rw [List.getElem?_append_right (by rw [List.length_map]; omega), List.getElem?_replicate] at h
      split at h <;> cases h
section
variable {P : Program} {w : World} {mg : Str → Option Value} {base : Heap} {x qual : Str} {st : Stmt} {f : Addr} {fd : FuncData} {N ps : List Str} {k : Nat} {fb : ASt}
theorem body_cF {Q : VK} {E : XK} {vs : List V} {H : Hp} (h : cF K cl ps.length (fnA N.length fb) vs H Q E) : cS K cl fb { nx := fun _ H' => Q .non H', rt := Q } (L2.start N vs) H := by
  obtain ⟨ρ, es, M, d, M', hl, r, A, e, q⟩ := h
  unfold fnA at e
  split at e
  · next d' ds' M2 e1 =>
    cases e
    exact ⟨ρ, _, M, .rt d, ds', _, env_start r, A, e1, fun ρ1 σ1 H1 x1 A1 E1 v rv => q ρ1 v H1 x1 A1 rv⟩
  · next ds' M2 e1 =>
    cases e
    exact ⟨ρ, _, M, .nx, ds', _, env_start r, A, e1, fun ρ1 σ1 H1 x1 A1 E1 => q ρ1 .non H1 x1 A1 .non⟩
  · cases e
theorem fn_ok (F : Fun K x qual st f fd) (S : FnScope N ps (defScope st))
    (hb : ∀ (cdv : Value) (A : Around) (outer : List PySem.Env) (s : Shared) (H : Hp) (E : XK), Room k (A.deeper (PyProof.Rows.envOfC qual (defScope st) s.heap.objs.size f cdv)) →
      PSs (cxOf CX0 P w K mg base N qual (defScope st) f cdv A outer s H E).nox (defBody st) (cS K cl fb)) : FnOk P w K mg base CX0 (k + 1) f fd ps (cF K cl ps.length (fnA N.length fb)) :=
  F.ok S (fun vs H Q E h => by obtain ⟨ρ, es, M, d, M', hl, _⟩ := h; exact hl) fun cdv A outer s H vs Q E hr h => ⟨_, hb cdv A outer s H E hr, body_cF h⟩
theorem fn_okD {params : Arguments} {body : List Stmt} {scope : Scope} {dvs : List V} {kws : List (Str × V)} (F : FunD K x qual params body scope dvs kws f fd) (S : FnScope N ps scope)
    (hb : ∀ (cdv : Value) (A : Around) (outer : List PySem.Env) (s : Shared) (H : Hp) (E : XK), Room k (A.deeper (PyProof.Rows.envOfC qual scope s.heap.objs.size f cdv)) →
      PSs (cxOf CX0 P w K mg base N qual scope f cdv A outer s H E).nox body (cS K cl fb)) : FnOk P w K mg base CX0 (k + 1) f fd ps (cF K cl ps.length (fnA N.length fb)) :=
  F.ok S (fun vs H Q E h => by obtain ⟨ρ, es, M, d, M', hl, _⟩ := h; exact hl) fun cdv A outer s H vs Q E hr h => ⟨_, (hb cdv A outer s H E hr).nox, body_cF h⟩
end
end
end AL
namespace AL
open PySem L2
section
variable {X : Cx} {cl : Nat → Addr} {K : PySem.W.Frag}

/-! ### isinstance -/
def tyD (M : AS) (d : D) : Option String := match d with
  | .non => some "NoneType"
  | .bl _ => some "bool"
  | .int _ => some "int"
  | .str _ => some "str"
  | .tup _ => some "tuple"
  | .tpc _ => some "tuple"
  | .ref n => match M.mem n with
    | some (.lst _) => some "list"
    | some (.fro _) => some "list"
    | some (.dct _) => some "dict"
    | some (.fdc _) => some "dict"
    | _ => none
  | .con _ => none
theorem ty_is {ρ : Rho} {H : Hp} {M : AS} {d : D} {v : V} {t : String} (A : Abs K cl ρ H M) (r : Rep K ρ H v d) (e : tyD M d = some t) : TyX K H v (.type t) := by
  unfold tyD at e
  split at e
  · cases r; cases e; exact .base .non
  · cases r; cases e; exact .base (.bl _)
  · cases r; cases e; exact .base (.int _)
  · cases r; cases e; exact .base (.str _)
  · cases e
    cases r with
    | tup s rs =>
    rcases s with (s | ⟨o, s⟩) | ⟨o, its, n, s, hc, _⟩
    · exact .base (.tup s)
    · exact .fTuple s
    · exact .kTuple s hc
  · cases e
    cases r with
    | tpc s z rs => exact .fTuple s
  · next n =>
    cases r with
    | @ref a _ hr =>
    split at e
    · next ds hm =>
      cases e
      obtain ⟨vs, h1, h2⟩ := A.at hr hm
      exact .base (.lst h1)
    · next ds hm =>
      cases e
      obtain ⟨vs, h1, h2⟩ := A.at hr hm
      rcases h1 with ⟨o, h1⟩ | ⟨o, its, n, s, hc, _⟩
      · exact .base (.frz h1)
      · exact .kList s hc
    · next ds hm =>
      cases e
      obtain ⟨kvs, h1, h2⟩ := A.at hr hm
      exact .base (.dK h1)
    · next ds hm =>
      cases e
      obtain ⟨o, kvs, h1, h2⟩ := A.at hr hm
      exact .fDict h1
    · cases e
  · cases e
def oIsi (T : String) : OpN := fun es M => match es with
  | [d, .con _] => match tyD M d with
    | some t => match kitB t T with
      | some b => some (.bl b, M)
      | none => none
    | none => none
  | _ => none
/-- isinstance(e, T), T a built-in class -/
theorem a_isi {T : String} {xt : Str} {p pt pos : Pos} {e : Expr} {f : AE} (hm : X.mg "isinstance" = none) (hmT : X.mg xt = none) (hvT : bootBuiltins xt = some (.type T)) (ha : PE X e (cE X.K cl f)) (hg : Gl X "isinstance" := by rfl) (hgT : Gl X xt := by rfl)
    (hn : xt ≠ "__name__" := by decide) (hd : (xt == ("__debug__" : Str)) = false := by decide)
    (hs : starEach [e, .Name xt pt] X.env = (false, eval e X.env) :: starEach [.Name xt pt] X.env := by rfl) (hs2 : starEach [.Name xt pt] X.env = (false, eval (.Name xt pt) X.env) :: starEach [] X.env := by rfl)
    (hpl : (backTo pos (starEach [.Name xt pt] X.env)).any (·.1) = false := by rfl) :
    PE X (.Call (.Name "isinstance" p) [e, .Name xt pt] [] pos) (cE X.K cl (fCB (oIsi T) (fCons f (fCons (fC (.con (.ty T))) fNil)))) := by
  refine PE.imp (pe_callB call_isi hg hm PyProof.Rows.boot_isinstance (pa_cons ha (pa_cons (pe_bltn (v := V.ty T) hgT hmT hvT rfl hn hd) pa_nil hs2) hs) (by decide) (by decide) hs hpl) fun σ H Q h => ?_
  obtain ⟨ρ, ds, M, d, M', E, A, e, q⟩ := h
  unfold fCB at e
  split at e
  · next es M1 e1 =>
    unfold fCons at e1
    split at e1
    · cases e1
    · next d1 M2 e2 =>
      split at e1
      · cases e1
      · next es3 M3 e3 =>
        cases e3
        cases e1
        simp only [oIsi] at e
        split at e
        · next t ht =>
          split at e
          · next b hb =>
            cases e
            refine goE E A e2 fun ρ1 v1 H1 x1 A1 r1 => ?_
            exact ⟨v1, .ty T, .type t, .type T, b, rfl, .ty T, ty_is A1 r1 ht, kit_ty hb, q ρ1 _ H1 x1 A1 (.bl _)⟩
          · cases e
        · cases e
  · cases e
/-- isinstance(e, C), an instance of C itself -/
def fIsC (c : Nat) (f : AE) : AE := fun ds M => match f ds M with
  | some (.ref n, M1) => if isCls M1 n c = true then some (.bl true, M1) else none
  | _ => none
theorem a_isC {c : Nat} {xt : Str} {p pt pos : Pos} {e : Expr} {f : AE} (ic : C8.InsC X.K (cl c)) (hmT : X.mg xt = some (.ref (cl c))) (hm : X.mg "isinstance" = none) (ha : PE X e (cE X.K cl f)) (hg : Gl X "isinstance" := by rfl) (hgT : Gl X xt := by rfl)
    (hd : (xt == ("__debug__" : Str)) = false := by decide)
    (hs : starEach [e, .Name xt pt] X.env = (false, eval e X.env) :: starEach [.Name xt pt] X.env := by rfl) (hs2 : starEach [.Name xt pt] X.env = (false, eval (.Name xt pt) X.env) :: starEach [] X.env := by rfl)
    (hpl : (backTo pos (starEach [.Name xt pt] X.env)).any (·.1) = false := by rfl) :
    PE X (.Call (.Name "isinstance" p) [e, .Name xt pt] [] pos) (cE X.K cl (fIsC c f)) := by
  refine PE.imp (pe_callB (C8.call_isC ic) hg hm PyProof.Rows.boot_isinstance (pa_cons ha (pa_cons (pe_glob (v := V.ref (cl c)) hgT hmT rfl hd) pa_nil hs2) hs) (by decide) (by decide) hs hpl) fun σ H Q h => ?_
  obtain ⟨ρ, ds, M, d, M', E, A, e, q⟩ := h
  unfold fIsC at e
  split at e
  · next n M1 e1 =>
    split at e
    · next hc =>
      cases e
      refine goE E A e1 fun ρ1 v1 H1 x1 A1 r1 => ?_
      unfold isCls at hc
      split at hc
      · next c' fs hm' =>
        have hc := beq_iff_eq.mp hc
        subst hc
        cases r1 with
        | @ref a _ hr =>
        obtain ⟨dx, vf, h1, h2⟩ := A1.at hr hm'
        exact ⟨a, dx, vf, rfl, h1, q ρ1 _ H1 x1 A1 (.bl _)⟩
      · cases hc
    · cases e
  · cases e
/-- isinstance(e, (T1, T2, ..)) -/
def anyB (t : String) : List String → Option Bool
  | [] => some false
  | T :: Ts => match kitB t T with
    | some true => some true
    | some false => anyB t Ts
    | none => none
theorem anyB_is {t : String} : ∀ {Ts : List String} {b : Bool}, anyB t Ts = some b → PySem.W.kitAny K (.type t) (Ts.map Value.type) = some b
  | [], b, e => by cases e; rfl
  | T :: Ts, b, e => by
    unfold anyB at e
    split at e
    · next h => cases e; exact kitAny_cons (kit_ty h) (fun z => nomatch z) fun _ => rfl
    · next h => exact kitAny_cons (kit_ty h) (fun _ => anyB_is e) fun z => nomatch z
    · cases e
def fIsT (Ts : List String) (f : AE) : AE := fun ds M => match f ds M with
  | some (d, M1) => match tyD M1 d with
    | some t => match anyB t Ts with
      | some b => some (.bl b, M1)
      | none => none
    | none => none
  | none => none
theorem clsV_all : ∀ Ts : List String, Paired ClsV (Ts.map V.ty) (Ts.map Value.type)
  | [] => .nil
  | T :: Ts => .cons (.ty T) (clsV_all Ts)
theorem a_isT2 {T1 T2 : String} {x1 x2 : Str} {p p1 p2 pt pos : Pos} {kk : Nat} {e : Expr} {f : AE} (hm : X.mg "isinstance" = none) (hm1 : X.mg x1 = none) (hv1 : bootBuiltins x1 = some (.type T1)) (hm2 : X.mg x2 = none) (hv2 : bootBuiltins x2 = some (.type T2)) (ha : PE X e (cE X.K cl f))
    (hg : Gl X "isinstance" := by rfl) (hg1 : Gl X x1 := by rfl) (hg2 : Gl X x2 := by rfl) (hn1 : x1 ≠ "__name__" := by decide) (hd1 : (x1 == ("__debug__" : Str)) = false := by decide) (hn2 : x2 ≠ "__name__" := by decide) (hd2 : (x2 == ("__debug__" : Str)) = false := by decide)
    (hs : starEach [e, .Tuple [.Name x1 p1, .Name x2 p2] kk pt] X.env = (false, eval e X.env) :: starEach [.Tuple [.Name x1 p1, .Name x2 p2] kk pt] X.env := by rfl)
    (hs2 : starEach [.Tuple [.Name x1 p1, .Name x2 p2] kk pt] X.env = (false, eval (.Tuple [.Name x1 p1, .Name x2 p2] kk pt) X.env) :: starEach [] X.env := by rfl)
    (hs3 : starEach [.Name x1 p1, .Name x2 p2] X.env = (false, eval (.Name x1 p1) X.env) :: starEach [.Name x2 p2] X.env := by rfl) (hs4 : starEach [.Name x2 p2] X.env = (false, eval (.Name x2 p2) X.env) :: starEach [] X.env := by rfl)
    (hpl : (backTo pos (starEach [.Tuple [.Name x1 p1, .Name x2 p2] kk pt] X.env)).any (·.1) = false := by rfl) :
    PE X (.Call (.Name "isinstance" p) [e, .Tuple [.Name x1 p1, .Name x2 p2] kk pt] [] pos) (cE X.K cl (fIsT [T1, T2] f)) := by
  refine PE.imp (pe_callB call_isiT hg hm PyProof.Rows.boot_isinstance (pa_cons ha (pa_cons (pe_tup (pa_cons (pe_bltn (v := V.ty T1) hg1 hm1 hv1 rfl hn1 hd1) (pa_cons (pe_bltn (v := V.ty T2) hg2 hm2 hv2 rfl hn2 hd2) pa_nil hs4) hs3)) pa_nil hs2) hs) (by decide) (by decide) hs hpl) fun σ H Q h => ?_
  obtain ⟨ρ, ds, M, d, M', E, A, e, q⟩ := h
  unfold fIsT at e
  split at e
  · next d1 M1 e1 =>
    split at e
    · next t ht =>
      split at e
      · next b hb =>
        cases e
        refine goE E A e1 fun ρ1 v1 H1 x1 A1 r1 => ?_
        refine ⟨by show 2 ≤ sizeLine; decide, fun tp htp => ?_⟩
        have sm : Same H1 (upd H1 tp (.tup [.ty T1, .ty T2])) := same_upd htp
        have A2 := A1.same sm
        exact ⟨v1, tp, _, .type t, _, b, rfl, upd_same, clsV_all [T1, T2], ty_is A2 (r1.up (Ext.same sm)) ht, anyB_is hb, q ρ1 _ _ (x1.trans (Ext.same sm)) A2 (.bl _)⟩
      · cases e
    · cases e
  · cases e

/-! ### == of two instances of a class by its own __eq__ -/
def rEqO (C : Addr) (sp : Sp) : R2 := fun x y H Q => ∃ a b dx dy fs gs, x = .ref a ∧ y = .ref b ∧ H a = some (.ins C dx fs) ∧ H b = some (.ins C dy gs) ∧ sp [.ref a, .ref b] H (fun v H' => ∃ k, v = .bl k ∧ Q v H') E0
theorem op_eqO {C f : Addr} {n : Nat} {fd : FuncData} {ps : List Str} {sp : Sp} (F : FnOk X.prog X.w X.K X.mg X.base CX0 n f fd ps sp) (hr : Room n X.A)
    (hs : PySem.W.findIn X.K (.ref C) "__eq__" = some (some (.ref f))) (hf : PySem.W.isFn X.K (.ref f) = true) (hb : Binds X.K fd ps []) : OpR X (compareOp .Eq) (rEqO C sp) := by
  intro pins s σ H x y v u Q I rx ry d
  obtain ⟨a, b, dx, dy, fs, gs, rfl, rfl, ha, hb', hsp⟩ := d
  cases rx
  cases ry
  show wpAny (model X.prog X.w) X.A (richCompare .Eq (.ref a) (.ref b)) (EP X pins σ Q) X.xe s
  obtain ⟨mA, J, _⟩ := ins_get I.hok ha
  obtain ⟨mB, J', _⟩ := ins_get I.hok hb'
  obtain ⟨od, J, _⟩ := J.look
  obtain ⟨od', J', _⟩ := J'.look
  obtain ⟨m, hF⟩ := I.fr
  refine PySem.W.cmp_K (op := .Eq) (tb := .ref C) hr.units0 hF I.ok.mod.kin J J'.type (by simp [PySem.W.notFirst]) hs hf ?_
  have hl := F.len _ _ _ _ hsp
  have r2 : Vals [V.ref a, V.ref b] [Value.ref a, Value.ref b] := .cons rfl (.cons rfl .nil)
  refine wpAny_call (codeAny_mono (F.run X.A X.stack s H ⟨[.ref a, .ref b], []⟩ [.ref a, .ref b] [.ref a, .ref b] _ E0 hr I.env0 (by
    have := hb s [.ref a, .ref b] I.kIn (by simpa using hl)
    simpa using this) r2 hsp) fun r s' hq => ?_)
  cases r with
  | error e => exact hq.elim
  | ok fl =>
    cases fl with
    | ret w =>
      obtain ⟨z, H', I', rz, k, ez, q⟩ := I.after hq
      subst ez
      cases rz
      exact ⟨.bl k, H', I', rfl, q⟩
    | next => exact False.elim hq
    | brk => exact False.elim hq
    | cont => exact False.elim hq
def oEqO (c : Nat) (F : AF) : Op2 := fun x y M => match x, y with
  | .ref n, .ref m => if isCls M n c = true ∧ isCls M m c = true then match F [x, y] M with
      | some (.bl b, M1) => some (.bl b, M1)
      | _ => none
    else none
  | _, _ => none
theorem isCls_at {ρ : Rho} {H : Hp} {M : AS} {n c : Nat} {a : Addr} (A : Abs K cl ρ H M) (hr : ρ n = some a) (h : isCls M n c = true) : ∃ dx vf, H a = some (.ins (cl c) dx vf) := by
  unfold isCls at h
  split at h
  · next c' fs hm =>
    have h := beq_iff_eq.mp h
    subst h
    obtain ⟨dx, vf, h1, h2⟩ := A.at hr hm
    exact ⟨dx, vf, h1⟩
  · cases h
theorem opa_eqO {c : Nat} {F : AF} : OpA K cl (rEqO (cl c) (cF K cl 2 F)) (oEqO c F) := by
  intro ρ H M x y dx dy z M' Q rx ry A e q
  unfold oEqO at e
  split at e
  · next n m =>
    split at e
    · next hc =>
      split at e
      · next b M1 e1 =>
        cases e
        have rx' := rx
        have ry' := ry
        cases rx with
        | @ref a _ hra =>
        cases ry with
        | @ref b' _ hrb =>
        obtain ⟨d1, f1, h1⟩ := isCls_at A hra hc.1
        obtain ⟨d2, f2, h2⟩ := isCls_at A hrb hc.2
        refine ⟨a, b', d1, d2, f1, f2, rfl, rfl, h1, h2, cF_go (es := [.ref n, .ref m]) rfl (.cons rx' (.cons ry' .nil)) A e1 fun ρ1 v H1 x1 A1 r1 => ?_⟩
        cases r1
        exact ⟨b, rfl, q ρ1 _ H1 x1 A1 (.bl _)⟩
      · cases e
    · cases e
  · cases e

/-! ### methods of lists -/
def fApp (fo f : AE) : AE := fun ds M => match fo ds M with
  | some (.ref n, M1) => match lstOf M1 (.ref n) with
    | some _ => match f ds M1 with
      | some (d, M2) => match M2.mem n with
        | some (.lst xs) => if xs.length < big then some (.non, M2.set n (.lst (xs ++ [d]))) else none
        | _ => none
      | none => none
    | none => none
  | _ => none
theorem a_append {o e : Expr} {fo f : AE} {apos cpos : Pos} (ho : PE X o (cE X.K cl fo)) (ha : PE X e (cE X.K cl f))
    (h : ∀ (to : TE) (t : TA), PE X o to → PA X [e] t → PE X (.Call (.Attribute o "append" apos) [e] [] cpos) (tBM X.K "list" rAppend to t)) (hs : starEach [e] X.env = (false, eval e X.env) :: starEach [] X.env := by rfl) :
    PE X (.Call (.Attribute o "append" apos) [e] [] cpos) (cE X.K cl (fApp fo f)) := PE.imp (h _ _ ho (pa_cons ha pa_nil hs)) fun σ H Q h => by
  obtain ⟨ρ, ds, M, d, M', E, A, e, q⟩ := h
  unfold fApp at e
  split at e
  · next n M1 e1 =>
    split at e
    · next ys hl =>
      split at e
      · next d2 M2 e2 =>
        split at e
        · next xs hm =>
          split at e
          · next hz =>
            cases e
            refine goE E A e1 fun ρ1 v1 H1 x1 A1 r1 => ?_
            obtain ⟨a, vs, rfl, s, rs⟩ := lst_at A1 r1 hl
            refine ⟨.inl ⟨rfl, vs, s⟩, goE (E.up x1) A1 e2 fun ρ2 v2 H2 x2 A2 r2 => ?_⟩
            cases r1 with
            | ref hr =>
            have hr := x2.re _ _ hr
            obtain ⟨ws, h1, rs⟩ := A2.at hr hm
            have xc : Ext ρ2 H2 ρ2 (upd H2 a (.lst (ws ++ [v2]))) := A2.ext_write hr hm trivial
            have Ac := A2.write (c' := .lst (xs ++ [d2])) (o' := .lst (ws ++ [v2])) hr hm trivial trivial ⟨_, upd_same, (rs.append (.cons r2 .nil)).up xc⟩
            exact ⟨a, ws, v2, rfl, rfl, h1, by rw [rs.length]; exact big_lt hz, q ρ2 _ _ ((x1.trans x2).trans xc) Ac .non⟩
          · cases e
        · cases e
      · cases e
    · cases e
  · cases e
def fPopAt (fo f : AE) : AE := fun ds M => match fo ds M with
  | some (.ref n, M1) => match lstOf M1 (.ref n) with
    | some _ => match f ds M1 with
      | some (.int i, M2) => match M2.mem n with
        | some (.lst xs) => if -(2 ^ 63) ≤ i ∧ i < 2 ^ 63 then match seqIndex? i xs.length with
            | some k => match xs[k]? with
              | some d => some (d, M2.set n (.lst (xs.eraseIdx k)))
              | none => none
            | none => none
          else none
        | _ => none
      | _ => none
    | none => none
  | _ => none
theorem a_popAt {o e : Expr} {fo f : AE} {apos cpos : Pos} (ho : PE X o (cE X.K cl fo)) (ha : PE X e (cE X.K cl f))
    (h : ∀ (to : TE) (t : TA), PE X o to → PA X [e] t → PE X (.Call (.Attribute o "pop" apos) [e] [] cpos) (tBM X.K "list" rPopAt to t)) (hs : starEach [e] X.env = (false, eval e X.env) :: starEach [] X.env := by rfl) :
    PE X (.Call (.Attribute o "pop" apos) [e] [] cpos) (cE X.K cl (fPopAt fo f)) := PE.imp (h _ _ ho (pa_cons ha pa_nil hs)) fun σ H Q h => by
  obtain ⟨ρ, ds, M, d, M', E, A, e, q⟩ := h
  unfold fPopAt at e
  split at e
  · next n M1 e1 =>
    split at e
    · next ys hl =>
      split at e
      · next i M2 e2 =>
        split at e
        · next xs hm =>
          split at e
          · next hz =>
            split at e
            · next k hk =>
              split at e
              · next d2 hd =>
                cases e
                refine goE E A e1 fun ρ1 v1 H1 x1 A1 r1 => ?_
                obtain ⟨a, vs, rfl, s, rs⟩ := lst_at A1 r1 hl
                refine ⟨.inl ⟨rfl, vs, s⟩, goE (E.up x1) A1 e2 fun ρ2 v2 H2 x2 A2 r2 => ?_⟩
                cases r2
                cases r1 with
                | ref hr =>
                have hr := x2.re _ _ hr
                obtain ⟨ws, h1, rs⟩ := A2.at hr hm
                obtain ⟨w, hw, rw'⟩ := rs.get hd
                have xc : Ext ρ2 H2 ρ2 (upd H2 a (.lst (ws.eraseIdx k))) := A2.ext_write hr hm trivial
                have Ac := A2.write (c' := .lst (xs.eraseIdx k)) (o' := .lst (ws.eraseIdx k)) hr hm trivial trivial ⟨_, upd_same, (rs.eraseIdx k).up xc⟩
                exact ⟨a, ws, i, k, w, rfl, rfl, h1, hz.1, hz.2, by rw [rs.length]; exact hk, hw, q ρ2 _ _ ((x1.trans x2).trans xc) Ac (rw'.up xc)⟩
              · cases e
            · cases e
          · cases e
        · cases e
      · cases e
    · cases e
  · cases e
end
end AL
namespace AL
open PySem L2
/-! ### what a caller knows of a def, a method, a property, a class -/
section
variable (P : Program) (w : World) (K : PySem.W.Frag) (mg : Str → Option Value) (base : Heap) (cl : Nat → Addr)
structure CallOk (x : Str) (k n : Nat) (F : AF) : Prop where
  ex : ∃ f fd ps, mg x = some (.ref f) ∧ PySem.W.keepIn K (.ref f) = true ∧ FnOk P w K mg base CX0 k f fd ps (cF K cl n F) ∧ Binds K fd ps []
structure MethOk (c : Nat) (m : Str) (k n : Nat) (F : AF) : Prop where
  ex : ∃ f fd ps, Cls K (cl c) ∧ Meth K (cl c) m f ∧ FnOk P w K mg base CX0 k f fd ps (cF K cl n F) ∧ Binds K fd ps []
structure PropOk (c : Nat) (m : Str) (k : Nat) (F : AF) : Prop where
  ex : ∃ pr g fd ps, Cls K (cl c) ∧ PropOf K (cl c) m pr g ∧ FnOk P w K mg base CX0 k g fd ps (cF K cl 1 F) ∧ Binds K fd ps []
structure MakeOk (c : Nat) (x : Str) (k n : Nat) (F : AF) : Prop where
  ex : ∃ f fd ps, Mk K (cl c) f ∧ mg x = some (.ref (cl c)) ∧ FnOk P w K mg base CX0 k f fd ps (cF K cl (n + 1) F) ∧ Binds K fd ps []
structure EqOk (c k : Nat) (F : AF) : Prop where
  ex : ∃ f fd ps, PySem.W.findIn K (.ref (cl c)) "__eq__" = some (some (.ref f)) ∧ PySem.W.isFn K (.ref f) = true ∧ FnOk P w K mg base CX0 k f fd ps (cF K cl 2 F) ∧ Binds K fd ps []
/-- C(e, k1 = .., ..): n positional ones, the keywords ks; gD: how they come to the parameters (self among the n + 1) -/
structure MakeKOk (c : Nat) (x : Str) (ks : List Str) (k n N : Nat) (gD : List D → List D → List D) (F : AF) : Prop where
  ex : ∃ f fd ps gd gV, Mk K (cl c) f ∧ mg x = some (.ref (cl c)) ∧ FnOk P w K mg base CX0 k f fd ps (cF K cl N F) ∧ KBn K fd ps (n + 1) ks gd gV ∧
    ∀ ρ H vs es zs ws, es.length = n + 1 → zs.length = ks.length → Reps K ρ H vs es → Reps K ρ H ws zs → (gV vs ws).length = N ∧ Reps K ρ H (gV vs ws) (gD es zs)
end
section
variable {X : Cx} {cl : Nat → Addr} {K : PySem.W.Frag} {x m : Str} {k j n N : Nat} {F : AF} {g gk : AA} {fo fa fb : AE} {c : Nat} {p pos apos : Pos} {e o a b : Expr} {es : List Expr}
theorem a_callO [mn : Many g n] (C : CallOk X.prog X.w X.K X.mg X.base cl x k n F) (hr : Room j X.A) (ha : PA X (e :: es) (cA X.K cl g)) (hkj : k ≤ j := by decide)
    (hg : Gl X x := by rfl) (hdb : (x == ("__debug__" : Str)) = false := by decide) (he : starEach (e :: es) X.env = (false, eval e X.env) :: starEach es X.env := by rfl) (hpl : (backTo pos (starEach es X.env)).any (·.1) = false := by rfl) :
    PE X (.Call (.Name x p) (e :: es) [] pos) (cE X.K cl (fCall F g)) := by
  obtain ⟨f, fd, ps, h1, h2, h3, h4⟩ := C.ex
  exact a_call h3 (hr.mono hkj) h1 h2 h4 ha hg hdb he hpl
theorem a_callO0 (C : CallOk X.prog X.w X.K X.mg X.base cl x k 0 F) (hr : Room j X.A) (hkj : k ≤ j := by decide) (hg : Gl X x := by rfl) (hdb : (x == ("__debug__" : Str)) = false := by decide) :
    PE X (.Call (.Name x p) [] [] pos) (cE X.K cl (fCall F fNil)) := by
  obtain ⟨f, fd, ps, h1, h2, h3, h4⟩ := C.ex
  exact a_call0 h3 (hr.mono hkj) h1 h2 h4 hg hdb
theorem a_methO [mn : Many g n] (pl : Sem Bool) (C : MethOk X.prog X.w X.K X.mg X.base cl c m k (n + 1) F) (hr : Room j X.A) (he : PE X o (cE X.K cl fo)) (ha : PA X (e :: es) (cA X.K cl g)) (hkj : k ≤ j := by decide)
    (hst : starEach (e :: es) X.env = (false, eval e X.env) :: starEach es X.env := by rfl) (hpl : (backTo pos (starEach es X.env)).any (·.1) = false := by rfl)
    (ht : eval (.Call (.Attribute o m apos) (e :: es) [] pos) X.env = (do
      let ov ← eval o X.env
      standAt apos.atName
      let (f, first) ← holding [ov] (getMethod ov m pl)
      callWith pos f first (backTo pos (starEach (e :: es) X.env)) (backToKw pos (keywordEach [] X.env))) := by rfl) :
    PE X (.Call (.Attribute o m apos) (e :: es) [] pos) (cE X.K cl (fMeth c m F fo g)) := by
  obtain ⟨f, fd, ps, h1, h2, h3, h4⟩ := C.ex
  exact a_meth h1 h2 h3 (hr.mono hkj) h4 he ha hst hpl ht
theorem a_methO0 (pl : Sem Bool) (C : MethOk X.prog X.w X.K X.mg X.base cl c m k 1 F) (hr : Room j X.A) (he : PE X o (cE X.K cl fo)) (hkj : k ≤ j := by decide)
    (ht : eval (.Call (.Attribute o m apos) [] [] pos) X.env = (do
      let ov ← eval o X.env
      standAt apos.atName
      let (f, first) ← holding [ov] (getMethod ov m pl)
      callWith pos f first (backTo pos (starEach [] X.env)) (backToKw pos (keywordEach [] X.env))) := by rfl) :
    PE X (.Call (.Attribute o m apos) [] [] pos) (cE X.K cl (fMeth c m F fo fNil)) := by
  obtain ⟨f, fd, ps, h1, h2, h3, h4⟩ := C.ex
  exact a_meth0 h1 h2 h3 (hr.mono hkj) h4 he ht
theorem a_propO (C : PropOk X.prog X.w X.K X.mg X.base cl c m k F) (hr : Room j X.A) (he : PE X o (cE X.K cl fo)) (hkj : k + 1 ≤ j := by decide) (hab : attributeBase o m X.env (eval o X.env) = eval o X.env := by rfl) :
    PE X (.Attribute o m pos) (cE X.K cl (fProp c F fo)) := by
  obtain ⟨pr, g', fd, ps, h1, h2, h3, h4⟩ := C.ex
  exact a_prop h1 h2 h3 (hr.mono hkj) h4 he hab
theorem a_makeO [mn : Many g n] (C : MakeOk X.prog X.w X.K X.mg X.base cl c x k n F) (hr : Room j X.A) (ha : PA X (e :: es) (cA X.K cl g)) (hkj : k + 1 ≤ j := by decide) (hg : Gl X x := by rfl) (hdb : (x == ("__debug__" : Str)) = false := by decide)
    (he : starEach (e :: es) X.env = (false, eval e X.env) :: starEach es X.env := by rfl) (hpl : (backTo pos (starEach es X.env)).any (·.1) = false := by rfl) : PE X (.Call (.Name x p) (e :: es) [] pos) (cE X.K cl (fMake c F g)) := by
  obtain ⟨f, fd, ps, h1, h2, h3, h4⟩ := C.ex
  exact a_make h1 h3 (hr.mono hkj) h2 h4 ha hg hdb he hpl
theorem a_makeKO {mm : Nat} {ks : List Str} {kws : List Keyword} {gD : List D → List D → List D} (C : MakeKOk X.prog X.w X.K X.mg X.base cl c x ks k n N gD F) (hr : Room j X.A) (ha : PA X (e :: es) (cA X.K cl g)) (hkw : PK X kws (cA X.K cl gk)) (hkj : k + 1 ≤ j := by decide) (hmm : ks.length = mm := by rfl) (hg : Gl X x := by rfl)
    (hall : (backToKw pos (keywordEach kws X.env)).all (·.1.isSome) = true := by rfl) (hks : (backToKw pos (keywordEach kws X.env)).filterMap (·.1) = ks := by rfl) (hdb : (x == ("__debug__" : Str)) = false := by decide)
    (he : starEach (e :: es) X.env = (false, eval e X.env) :: starEach es X.env := by rfl) (hpl : ((backTo pos (starEach (e :: es) X.env)).any (·.1) || (backToKw pos (keywordEach kws X.env)).any (·.1.isNone)) = false := by rfl) :
    PE X (.Call (.Name x p) (e :: es) kws pos) (cE X.K cl (fMakeK c n mm gD F g gk)) := by
  subst hmm
  obtain ⟨f, fd, ps, gd, gV, h1, h2, h3, h4, h5⟩ := C.ex
  exact a_makeK h1 h3 (hr.mono hkj) h2 h4 rfl h5 ha hkw hg hall hks hdb he hpl
theorem a_eqO (C : EqOk X.prog X.w X.K X.mg X.base cl c k F) (hr : Room j X.A) (ha : PE X a (cE X.K cl fa)) (hb : PE X b (cE X.K cl fb)) (hkj : k ≤ j := by decide) : PE X (.Compare a [.Eq] [b] pos) (cE X.K cl (fBin (oEqO c F) fa fb)) := by
  obtain ⟨f, fd, ps, h1, h2, h3, h4⟩ := C.ex
  exact a_cmp (op_eqO h3 (hr.mono hkj) h1 h2 h4) opa_eqO ha hb
theorem a_teqO (C : EqOk X.prog X.w X.K X.mg X.base cl c k F) (hr : Room j X.A) (ha : PE X a (cE X.K cl fa)) (hb : PE X b (cE X.K cl fb)) (hkj : k ≤ j := by decide) : PT X (.Compare a [.Eq] [b] pos) (cT X.K cl (fTst (fBin (oEqO c F) fa fb))) := by
  obtain ⟨f, fd, ps, h1, h2, h3, h4⟩ := C.ex
  exact a_tcmp (op_eqO h3 (hr.mono hkj) h1 h2 h4) opa_eqO ha hb

/-! ### a table of the module: texts to data -/
structure KTab (K : PySem.W.Frag) (w : World) (mg : Str → Option Value) (x : Str) (tab : List (Str × D)) : Prop where
  ex : ∃ d es n, mg x = some (.ref d) ∧ KDict K w d es n ∧ ∀ z dd, tab.lookup z = some dd → ∃ u0 v0, PySem.W.nsIn K d z = some (some u0) ∧ RelV v0 u0 ∧ ∀ ρ H, Rep K ρ H v0 dd
/-- z in the table (only where it is in) -/
def fInK (tab : List (Str × D)) (f : AE) : AE := fun ds M => match f ds M with
  | some (.str z, M1) => match tab.lookup z with
    | some _ => some (.bl true, M1)
    | none => none
  | _ => none
theorem a_inK {xt : Str} {pt : Pos} {tab : List (Str × D)} (T : KTab X.K X.w X.mg xt tab) (ha : PE X a (cE X.K cl fa)) (hg : Gl X xt := by rfl) (hd : (xt == ("__debug__" : Str)) = false := by decide) (hm : behindInMarks .In (.Name xt pt) = false := by rfl) :
    PE X (.Compare a [.In] [.Name xt pt] pos) (cE X.K cl (fInK tab fa)) := by
  obtain ⟨d, es, nn, h1, h2, h3⟩ := T.ex
  refine PE.imp (pe_cmpR (op_in_kd h2) ha (pe_glob (v := V.ref d) hg h1 rfl hd) hm) fun σ H Q h => ?_
  obtain ⟨ρ, ds, M, d', M', E, A, e, q⟩ := h
  unfold fInK at e
  split at e
  · next z M1 e1 =>
    split at e
    · next dd ht =>
      cases e
      show cE X.K cl fa σ H _
      refine goE E A e1 fun ρ1 v1 H1 x1 A1 r1 => ?_
      cases r1
      obtain ⟨u0, v0, k1, k2, k3⟩ := h3 z dd ht
      exact ⟨z, _, rfl, rfl, k1, q ρ1 _ H1 x1 A1 (.bl _)⟩
    · cases e
  · cases e
def fIxK (tab : List (Str × D)) (f : AE) : AE := fun ds M => match f ds M with
  | some (.str z, M1) => match tab.lookup z with
    | some d => some (d, M1)
    | none => none
  | _ => none
theorem a_ixK {xt : Str} {pt : Pos} {tab : List (Str × D)} (T : KTab X.K X.w X.mg xt tab) (ha : PE X a (cE X.K cl fa)) (hg : Gl X xt := by rfl) (hd : (xt == ("__debug__" : Str)) = false := by decide) (hs : PlainIx a := by exact fun _ _ => rfl) :
    PE X (.Subscript (.Name xt pt) a pos) (cE X.K cl (fIxK tab fa)) := by
  obtain ⟨d, es, nn, h1, h2, h3⟩ := T.ex
  have hr : IxR X (fun x y H Q => ∃ (z : Str) (u0 : Value) (v0 : V), x = .ref d ∧ y = .str z ∧ PySem.W.nsIn X.K d z = some (some u0) ∧ RelV v0 u0 ∧ Q v0 H) := by
    intro value slice pins s σ H x y v u Q I rx ry q hs
    have h := op_item_kd h2 pins s σ H x y v u Q I rx ry q
    obtain ⟨z, u0, v0, rfl, rfl, e, r, q⟩ := q
    cases rx
    exact PyProof.Rows.tail_any (kd_type h2 I) PySem.F.slot_dict_getitem.lookup h hs
  refine PE.imp (pe_ix hr (pe_glob (v := V.ref d) hg h1 rfl hd) ha hs) fun σ H Q h => ?_
  obtain ⟨ρ, ds, M, d', M', E, A, e, q⟩ := h
  unfold fIxK at e
  split at e
  · next z M1 e1 =>
    split at e
    · next dd ht =>
      cases e
      show cE X.K cl fa σ H _
      refine goE E A e1 fun ρ1 v1 H1 x1 A1 r1 => ?_
      cases r1
      obtain ⟨u0, v0, k1, k2, k3⟩ := h3 z _ ht
      exact ⟨z, u0, v0, rfl, rfl, k1, k2, q ρ1 _ H1 x1 A1 (k3 _ _)⟩
    · cases e
  · cases e
end
end AL
namespace AL
open PySem PySem.Spec PyProof.Rows
open AutoSeq1 (wpAny_loadPart')
/-! ### enumerate over a tuple -/
theorem meets_enum1 {v : Value} {o : Obj} {H : Heap → Prop} (B : Begins v o H) :
    Meets (Builtin.«enumerate.__new__» ⟨[.type "enumerate", v], []⟩) (fun _ R s => H s.heap ∧
      R (.ok (.ret (.ref (s.heap.push o).objs.size))) { s with heap := (s.heap.push o).push { cls := .type "enumerate", data := .fields #[.none, .bool false, .ref s.heap.objs.size, rawInt 0, .none, .none] } }) :=
  .of_wp fun prog w A R s h => by
    obtain ⟨hp, g, d, tk, os⟩ := s; obtain ⟨h1, h⟩ := h
    have hsub := sub_enumerate
    have q1 : ∀ {A' : Around} {E : Value → Shared → Prop} {Q : Value → Shared → Prop}, Q (.ref hp.objs.size) ⟨hp.push o, g, d, tk, os⟩ → wpAny (model prog w) A' (pyIter v) Q E ⟨hp, g, d, tk, os⟩ :=
      fun q => B.iter prog w _ _ ⟨hp, g, d, tk, os⟩ _ h1 q
    wp_walk using q1
    refine wpAny_stack_any fun st => wpAny_pure ?_
    split
    · rename_i c _ _ _ _ _
      cases (c == Value.type "enumerate")
      · wp_walk using q1
        exact ⟨_, rfl, h⟩
      · wp_walk using q1
        exact ⟨_, rfl, h⟩
    · wp_walk using q1
      exact ⟨_, rfl, h⟩
section
variable {prog : Program} {w : World} {A : Around} {E : Value → Shared → Prop} {s : Shared}
theorem enum1_begins {v : Value} {o : Obj} {H : Heap → Prop} {Q : Value → Shared → Prop} (B : Begins v o H) (h1 : H s.heap)
    (h : ∀ h', IsEnum h' (s.heap.objs.size + 1) s.heap.objs.size 0 .none → h'.get? s.heap.objs.size = some o → h'.objs.size = s.heap.objs.size + 2 →
      (∀ b o, s.heap.get? b = some o → h'.get? b = some o) → Q (.ref (s.heap.objs.size + 1)) { s with heap := h' }) :
    wpAny (model prog w) A (call (.type "enumerate") [v]) Q E s := by
  refine callType_new F.called_enumerate (by decide) (F.typeCall_enumerate_1 _) (F.newCall_enumerate_1 _) (fun obj => F.args_object_init_2 obj _) F.entry_enumerate_new
    (meets_enum1 B) ⟨h1, ?_⟩
  have hz : (s.heap.push o).objs.size = s.heap.objs.size + 1 := Heap.size_push ..
  show _ ∧ _
  rw [hz]
  have he : IsEnum ((s.heap.push o).push { cls := .type "enumerate", data := .fields #[.none, .bool false, .ref s.heap.objs.size, rawInt 0, .none, .none] }) (s.heap.objs.size + 1) s.heap.objs.size 0 .none := by
    have := Heap.get?_push_size (s.heap.push o) (o := { cls := .type "enumerate", data := .fields #[.none, .bool false, .ref s.heap.objs.size, rawInt 0, .none, .none] }) rfl
    rw [hz] at this; exact this
  refine ⟨⟨_, he, rfl⟩, h _ he (Heap.get?_push_of_some _ (Heap.get?_push_size _ B.free)) (by rw [Heap.size_push, hz]) fun b o x => Heap.get?_push_of_some _ (Heap.get?_push_of_some _ x)⟩
end
open L2
/-- the tuple at a, each item in a new pair -/
def IteT (K : PySem.W.Frag) (a : Addr) : It :=
  ⟨fun i H => ∃ (xs : List V) (x : V), SqT K H a xs ∧ xs[i]? = some x, fun i H v H' => ∃ T x, v = .ref T ∧ H T = none ∧ H' = upd H T (.tup [.int (i : Nat), x]) ∧ ∀ xs, SqT K H a xs → xs[i]? = some x, fun i H => ∃ xs : List V, SqT K H a xs ∧ xs.length ≤ i⟩
theorem isTuple_of {h : Heap} {a : Addr} {its : Array Value} (x : IsTup h a its) : h.IsTuple a its := by
  obtain ⟨o, h1, h2, n, h3⟩ := x
  exact ⟨o, h1, h2, n, h3⟩
theorem turn_enumT {P : Program} {w : World} {K : PySem.W.Frag} {elts : List Expr} {kk : Nat} {tpos : Pos} (a e it : Addr) :
    Turn P w K (.Tuple elts kk tpos) (IteT K a) [e, it] e (fun i h => (∃ old, IsEnum h e it ((i : Nat) : Int) old) ∧ h.IsTupleIter it a i ∧ e ≠ it ∧ e ≠ a ∧ it ≠ a) where
  mem := by simp
  obj := fun i h st b hb => by
    obtain ⟨⟨old, he⟩, ⟨o, ho, hc, hd⟩, _⟩ := st
    have e' : b = e ∨ b = it := by simpa using hb
    rcases e' with z | z
    · rw [z]; exact ⟨_, he, fun v q => nomatch q⟩
    · rw [z]; exact ⟨o, ho, fun v q => by rw [hd] at q; cases q⟩
  keep := fun i h h' st k => let ⟨⟨old, he⟩, hi, hne⟩ := st; ⟨⟨old, k e (by simp) _ he⟩, hi.at fun o q => k it (by simp) o q, hne⟩
  item := by
    intro X hP hw hK hc i pins s σ H E I hf st hg
    subst hP hw hK
    obtain ⟨⟨old, he⟩, hit, hne, hea, hia⟩ := st
    obtain ⟨xs, x, hq, hx⟩ := hg
    obtain ⟨its, rv, p, hz⟩ := I.tuple hq
    obtain ⟨u, hu, ru⟩ := rv.get hx
    have hel : e < s.heap.objs.size := Heap.lt_size he
    have hil : it < s.heap.objs.size := by obtain ⟨_, q, _⟩ := hit; exact Heap.lt_size q
    have D := Draws.tuple (prog := X.prog) (w := X.w) (A := X.A.in1) (by rw [show X.A.in1.handled = X.A.handled from rfl]; exact I.ok.hd hc) it a hia.symm its.toArray
    have hsz : i < its.toArray.size := by
      have := (List.getElem?_eq_some_iff.mp hu).1
      simpa using this
    have hef : e ∉ [it, a] := by simp [hne, hea]
    refine wpAny_pyNext_enum_itemD D he ⟨hit, isTuple_of p⟩ hsz hne hef fun x' h' tk hP ho hst' hT hsz' hk => ?_
    have hx' : x' = u := by
      have : its[i]? = some x' := by simpa using hP
      rw [hu] at this
      exact (Option.some.inj this).symm
    subst hx'
    refine ⟨_, rfl, wpAny_letOwnedTupleGo_enum (s := { s with heap := h', toks := tk + 1 }) ho fun h'' he' sb => ?_⟩
    have hT2 : h''.get? s.heap.objs.size = some { cls := .type "tuple", data := .seq #[.int i tk, x'] } := (sb.2 _ (Nat.ne_of_gt hel)).trans hT
    have new : ObjOk X.prog X.w (upd H s.heap.objs.size (.tup [.int (i : Nat), x])) h'' s.heap.objs.size (.tup [.int (i : Nat), x]) :=
      ⟨by show 2 ≤ sizeLine; decide, [.int i tk, x'], .cons ⟨_, rfl⟩ (.cons ru .nil), ⟨_, hT2, rfl, _, rfl⟩⟩
    have I1 : Inv X pins σ (upd H s.heap.objs.size (.tup [.int (i : Nat), x])) { s with heap := h'', toks := tk + 1 } :=
      I.turnedNew (ch := [e, it]) (fun b ob hb q => (sb.2 b (fun z => hb (by simp [z]))).trans (hk b ob (fun z => hb (by simp [z])) (fun z => hb (by simp [z])) q)) hf (Nat.le_refl _) new
    refine ⟨.ref s.heap.objs.size, _, I1, rfl, ⟨_, x, rfl, I.hok.fresh (Nat.le_refl _), rfl, fun ys hy => by rw [I.tuple_inj hy hq]; exact hx⟩, ⟨⟨x', ?_⟩, hst'.1.at fun o q => (sb.2 it (Ne.symm hne)).trans q, hne, hea, hia⟩, fun b hb => ?_⟩
    · have e1 : ((i + 1 : Nat) : Int) = (i : Int) + 1 := by omega
      rw [e1]; exact he'
    · have hb' : b < s.heap.objs.size := by
        have e' : b = e ∨ b = it := by simpa using hb
        rcases e' with z | z
        · rw [z]; exact hel
        · rw [z]; exact hil
      rw [upd_ne (Nat.ne_of_lt hb')]
      exact (hf b hb).1
  done := by
    intro X hP hw hK hc i pins s σ H E I hf st hg
    subst hP hw hK
    obtain ⟨⟨old, he⟩, hit, hne, hea, hia⟩ := st
    obtain ⟨xs, hq, hx⟩ := hg
    obtain ⟨its, rv, p, hz⟩ := I.tuple hq
    have hl := rv.length
    have hilt : its.toArray.size ≤ i := by rw [List.size_toArray, ← hl]; exact hx
    -- the same tuple iterator, read as one over its first i places
    have D := Draws.tuple (prog := X.prog) (w := X.w) (A := X.A.in1) (by rw [show X.A.in1.handled = X.A.handled from rfl]; exact I.ok.hd hc) it a hia.symm its.toArray
    obtain ⟨f0, f1, f2, f3, f4, f5⟩ := hf it (by simp)
    have D' : Draws X.prog X.w X.A.in1 it [it, a] i (fun j v => its.toArray[j]? = some v) (fun j h => h.IsTupleIter it a j ∧ h.IsTuple a its.toArray ∧ i ≤ j) :=
      { live := fun _ _ st => D.live _ _ ⟨st.1, st.2.1⟩
        frame := fun j h h' st hk => ⟨(D.frame j h h' ⟨st.1, st.2.1⟩ hk).1, (D.frame j h h' ⟨st.1, st.2.1⟩ hk).2, st.2.2⟩
        item := fun j s Q E hj st hQ => absurd (Nat.lt_of_lt_of_le hj st.2.2) (Nat.lt_irrefl _)
        done := fun s Q E st hE => wpAny_nextOf_tuple_end (by rw [show X.A.in1.handled = X.A.handled from rfl]; exact I.ok.hd hc) st.1 st.2.1 (by simp; simpa using hilt) hE }
    exact wpAny_pyNext_enum_endD D' he ⟨hit, isTuple_of p, Nat.le_refl _⟩ fun h' eb => ⟨rfl, I.turned (t' := s.toks) (fun b o hb q => eb b o hb q) f0 f1 f3 f4 f5⟩
  self := fun A i s Q E st h => let ⟨⟨_, he⟩, _⟩ := st; wpAny_pyIter_enum he h
def iEnumT (K : PySem.W.Frag) (ta : TA) : TI := fun σ H R => ta σ H fun vs H1 => ∃ a xs, vs = [.ref a] ∧ SqT K H1 a xs ∧ R (IteT K a) H1
theorem pi_enumT {X : Cx} {e : Expr} {ta : TA} {p pos tpos : Pos} {elts : List Expr} {kk : Nat} (hg : Gl X "enumerate") (hm : X.mg "enumerate" = none) (ha : PA X [e] ta) (hs : starEach [e] X.env = [(false, eval e X.env)] := by rfl) :
    PI X (.Tuple elts kk tpos) (.Call (.Name "enumerate" p) [e] [] pos) (iEnumT X.K ta) := by
  refine ⟨fun pins s σ H R I h => ?_⟩
  refine Call_ (ld_blt I hg hm boot_enumerate (PyProof.Rows.callWith_type1 (thn (ha.run pos pins s σ H _ I h) fun us s1 ⟨vs, H1, I1, r1, q1⟩ => ?_) hs rfl))
  obtain ⟨a, xs, ex, hq, q⟩ := q1
  subst ex
  cases r1 with
  | cons r rr =>
    cases rr
    cases r
    obtain ⟨its, rv, p', hz⟩ := I1.tuple hq
    refine enum1_begins (begins_tuple a its.toArray) (isTuple_of p') fun h' he hit hsz hk => wpAny_pyIter_enum he ?_
    have I2 : Inv X pins σ H1 { s1 with heap := h' } := I1.kept (t' := s1.toks) hk
    have hal : a < s1.heap.objs.size := by obtain ⟨o, ho, _⟩ := p'; exact Heap.lt_size ho
    refine ⟨s1.heap.objs.size + 1, [s1.heap.objs.size + 1, s1.heap.objs.size], _, _, H1, rfl, I2, turn_enumT a (s1.heap.objs.size + 1) s1.heap.objs.size, ⟨⟨.none, he⟩, ⟨_, hit, rfl, rfl⟩, Nat.succ_ne_self _, Nat.ne_of_gt (Nat.lt_succ_of_lt hal), Nat.ne_of_gt hal⟩, fun b hb => ?_, q⟩
    have e' : b = s1.heap.objs.size + 1 ∨ b = s1.heap.objs.size := by simpa using hb
    have hle : s1.heap.objs.size ≤ b := by
      rcases e' with z | z
      · rw [z]; exact Nat.le_add_right _ _
      · rw [z]; exact Nat.le_refl _
    exact I1.fpOk hle (I1.hok.fresh hle)
section
variable {X : Cx} {cl : Nat → Addr} {K : PySem.W.Frag}
def enD (xs : List D) : List D := xs.mapIdx fun i x => .tup [.int (i : Nat), x]
theorem it_numT {a : Addr} {vs : List V} {xs : List D} {ρ : Rho} {H : Hp} (s : SqT K H a vs) (r : Reps K ρ H vs xs) : ItOk K cl (IteT K a) (.fix (enD xs)) ρ H where
  stop := fun ρ1 H1 M i x A e => by
    have e : (enD xs)[i]? = none := Option.some.inj e
    refine ⟨vs, x.sqT s, ?_⟩
    rw [r.length]
    have := List.getElem?_eq_none_iff.mp e
    unfold enD at this
    rw [List.length_mapIdx] at this
    exact this
  go := fun ρ1 H1 M i d x A e => by
    have e : (enD xs)[i]? = some d := Option.some.inj e
    unfold enD at e
    rw [List.getElem?_mapIdx] at e
    cases hx : xs[i]? with
    | none => rw [hx] at e; cases e
    | some d' =>
      rw [hx] at e
      cases e
      obtain ⟨v, h1, h2⟩ := r.get hx
      refine ⟨⟨vs, v, x.sqT s, h1⟩, fun y H' hy => ?_⟩
      obtain ⟨T, y', rfl, hT, rfl, hy⟩ := hy
      have := hy vs (x.sqT s)
      rw [h1] at this
      cases this
      have sm : Same H1 (upd H1 T (.tup [.int i, v])) := same_upd hT
      exact ⟨ρ1, Ext.same sm, A.same sm, .tup (.inl (.inl upd_same)) (.cons (.int _) (.cons ((h2.up x).up (Ext.same sm)) .nil))⟩
def fEnum (f : AE) : AI := fun ds M => match f ds M with
  | some (.tup xs, M1) => some (.fix (enD xs), M1)
  | some (.ref n, M1) => match lstOf M1 (.ref n) with
    | some _ => some (.num n, M1)
    | none => none
  | _ => none
theorem i_enum {e : Expr} {f : AE} {p pos tpos : Pos} {elts : List Expr} {kk : Nat} (hm : X.mg "enumerate" = none) (he : PE X e (cE X.K cl f)) (hg : Gl X "enumerate" := by rfl) (hs : starEach [e] X.env = [(false, eval e X.env)] := by rfl) :
    PI X (.Tuple elts kk tpos) (.Call (.Name "enumerate" p) [e] [] pos) (cI X.K cl (fEnum f)) := PI.imp (PI.or (pi_enum hg hm (pa_cons he pa_nil hs) hs) (pi_enumT hg hm (pa_cons he pa_nil hs) hs)) fun σ H R h => by
  obtain ⟨ρ, ds, M, I, M', E, A, e, q⟩ := h
  unfold fEnum at e
  split at e
  · next xs M1 e1 =>
    cases e
    refine .inr (goE E A e1 fun ρ1 v1 H1 x1 A1 r1 => ?_)
    cases r1 with
    | @tup a vs _ s rs =>
    exact ⟨a, vs, rfl, s, q ρ1 H1 _ x1 A1 (it_numT s rs)⟩
  · next n M1 e1 =>
    split at e
    · next xs h =>
      cases e
      refine .inl (goE E A e1 fun ρ1 v1 H1 x1 A1 r1 => ?_)
      obtain ⟨a, vs, rfl, s, rs⟩ := lst_at A1 r1 h
      cases r1 with
      | ref hr => exact ⟨a, vs, rfl, s, q ρ1 H1 _ x1 A1 (it_num hr)⟩
    · cases e
  · cases e
end
end AL
namespace AL
open PySem PySem.Spec PyProof.Rows L2
open AutoSeq1 (wpAny_loadPart')
/-! ### a tuple times an int, once -/
theorem tuple_mul1 (l : Addr) (items : Array Value) (n : Nat) (dd : Option Addr) (sl : Array (Option Value)) (u : Tok) :
    Meets (Builtin.«tuple.__mul__» ⟨[.ref l, .int 1 u], []⟩) (fun _ R s => s.heap.get? l = some { cls := .type "tuple", dict := dd, data := .seq items n, slots := sl } ∧ R (.ok (.ret (.ref l))) s) :=
  .of_wp fun prog w A R s h => by
    obtain ⟨hp, g, d, tk, os⟩ := s
    obtain ⟨hl, h⟩ := h
    have f1 := AutoSeq1.idx_int
    wp_walk using wpAny_loadPart' hl
    have c1 : (items.isEmpty || (1 : Int) == 1) = true := by simp
    first
      | exact ⟨_, rfl, h⟩
      | (rw [if_pos c1]; wp_walk using wpAny_loadPart' hl; exact ⟨_, rfl, h⟩)
      | (refine wpAny_ite_true (decide_eq_true c1) ?_; wp_walk using wpAny_loadPart' hl; exact ⟨_, rfl, h⟩)
section
variable {X : Cx} {cl : Nat → Addr} {K : PySem.W.Frag}
def rRep1 (K : PySem.W.Frag) : R2 := fun x y H Q => ∃ l xs, x = .ref l ∧ y = .int 1 ∧ SqT K H l xs ∧ Q (.ref l) H
theorem op_rep1 : OpR X (binaryOp .Mult) (rRep1 X.K) := by
  intro pins s σ H x y v u Q I rx ry h
  obtain ⟨l, xs, rfl, rfl, hT, q⟩ := h
  cases rx
  obtain ⟨t, rfl⟩ := ry
  obtain ⟨its, r, ⟨⟨cls, dd, data, sl⟩, ho, hc, n, hd⟩, hs⟩ := I.tuple hT
  simp only at hc hd
  subst hc hd
  exact wpAny_binaryOp_repeat_ref (T := "tuple") (U := "int") (by decide) ⟨_, ho, rfl⟩ (fun s' => typeIs_int s' 1 t) noFill_tuple_mul F.fills_int_mul F.slot_int_rmul repeat_tuple F.slot_int_index.lookup
    (call_meets F.slot_int_rmul (typeIs_int s 1 t) F.entry_int_rmul (F.args_int_rmul_2 _ _) (int_rmul_tuple 1 t l its.toArray n dd sl)
      ⟨ho, rfl, ⟨_, ho, rfl⟩, call_meets F.slot_tuple_mul ⟨_, ho, rfl⟩ F.entry_tuple_mul (F.args_tuple_mul_2 _ _) (tuple_mul1 l its.toArray n dd sl t) ⟨ho, ⟨.ref l, H, I, rfl, q⟩⟩⟩)
def oRepT : Op2 := fun x y M => match x, y with
  | .tup xs, .int k => if k = 1 then some (.tup xs, M) else if xs ≠ [] ∧ 2 ≤ k ∧ k ≤ 1000 ∧ xs.length ≤ 1000 then some (.tup (List.replicate k.toNat xs).flatten, M) else none
  | _, _ => none
theorem opa_repT : OpA K cl (fun x y H Q => rRep1 K x y H Q ∨ rRepT K x y H Q) oRepT := by
  intro ρ H M x y dx dy z M' Q rx ry A e q
  unfold oRepT at e
  split at e
  · next xs k =>
    cases ry
    cases rx with
    | @tup a vs _ s rs =>
    split at e
    · next h1 =>
      cases e
      subst h1
      exact .inl ⟨a, vs, rfl, rfl, s, q ρ _ H (Ext.refl _ _) A (.tup s rs)⟩
    · split at e
      · next h =>
        cases e
        refine .inr ⟨a, k, vs, rfl, rfl, s, fun h0 => ?_, h.2.1, h.2.2.1, by rw [rs.length]; exact h.2.2.2, fun p hp => new_tup A hp (rs.rep _) q⟩
        subst h0
        cases rs
        exact h.1 rfl
      · cases e
  · cases e
theorem a_repT {a b : Expr} {fa fb : AE} {pos : Pos} (ha : PE X a (cE X.K cl fa)) (hb : PE X b (cE X.K cl fb)) : PE X (.BinOp a .Mult b pos) (cE X.K cl (fBin oRepT fa fb)) := a_op (op_rep1.or op_repT) opa_repT ha hb
end
end AL
/-! list(zip(a, b, c)) over three tuples of one length. -/
namespace ZL
open PySem PySem.Spec PyProof.Rows
section
variable {prog : Program} {w : World} {A : Around} {E : Value → Shared → Prop} {s : Shared} {z TI TO T i1 i2 i3 : Addr} {fp1 fp2 fp3 : List Addr} {n1 n2 n3 i : Nat} {P1 P2 P3 : Nat → Value → Prop} {St1 St2 St3 : Nat → Heap → Prop} {f : Bool} {oT : Obj}
theorem next_held {Q : Value → Shared → Prop} (S : ZipSep3 z TI TO i1 i2 i3 fp1 fp2 fp3) (D1 : Draws prog w A i1 fp1 n1 P1 St1) (D2 : Draws prog w A i2 fp2 n2 P2 St2) (D3 : Draws prog w A i3 fp3 n3 P3 St3)
    (hz : IsZipHeld s.heap z TI TO T f) (hT : s.heap.get? T = some oT) (hTI : IsTupOf3 s.heap TI (.ref i1) (.ref i2) (.ref i3)) (st1 : St1 i s.heap) (st2 : St2 i s.heap) (st3 : St3 i s.heap) (hlt1 : i < n1) (hlt2 : i < n2) (hlt3 : i < n3)
    (hQ : ∀ x1 x2 x3 h' tk, P1 i x1 → P2 i x2 → P3 i x3 → IsZipHeld h' z TI TO T true → St1 (i + 1) h' → St2 (i + 1) h' → St3 (i + 1) h' → IsTupOf3 h' s.heap.objs.size x1 x2 x3 → h'.objs.size = s.heap.objs.size + 1 →
      (∀ c o, c ≠ z → c ≠ i1 → c ≠ i2 → c ≠ i3 → s.heap.get? c = some o → h'.get? c = some o) → Q (.ref s.heap.objs.size) { s with heap := h', toks := tk }) :
    wpAny (model prog w) A (Builtin.«zip.__next__» ⟨[.ref z], []⟩) (fun fin s' => ∃ v, fin = .done (.ret v) ∧ Q v s') E s := by
  obtain ⟨hp, g, d, tk0, os⟩ := s
  show wpAny _ _ (field (.ref z) 2 >>= _) _ _ _
  refine wpAny_bind (wpAny_field hz rfl (x := .bool false) rfl ?_)
  show wpAny _ _ (field (.ref z) 3 >>= _) _ _ _
  refine wpAny_bind (wpAny_field hz rfl (x := .ref TI) rfl ?_)
  refine wpAny_bind (wpAny_seqItems hTI rfl ?_)
  show wpAny _ _ (Builtin.SmallTypes.ownedTupleIsFree (.ref z) >>= _) _ _ _
  refine wpAny_bind (wpAny_tupleHeld_zip hz hT fun g0 hz0 hs0 => ?_)
  simp only [Bool.false_eq_true, if_false]
  replace hs0 : Heap.SameBut z hp g0 := hs0
  refine wpAny_bind ?_
  rw [← Array.forIn_toList]
  simp only [List.forIn_cons, List.forIn_nil]
  refine wpAny_bind (wpAny_bind (wpAny_holding ?_))
  show wpAny _ _ (Builtin.SmallTypes.nextOf (.ref i1) >>= _) _ _ ⟨g0, g, d, tk0, os⟩
  refine wpAny_bind (D1.item i _ _ _ hlt1 (D1.over st1 hs0 S.zf1) fun x1 p1 tk1 hx1 sn1 hp1 => wpAny_pure ?_)
  replace hp1 : Heap.SameBut i1 g0 p1 := hp1
  refine wpAny_pure ?_
  refine wpAny_bind (wpAny_bind (wpAny_holding ?_))
  show wpAny _ _ (Builtin.SmallTypes.nextOf (.ref i2) >>= _) _ _ ⟨p1, g, d, tk1, os⟩
  refine wpAny_bind (D2.item i _ _ _ hlt2 (D2.over (D2.over st2 hs0 S.zf2) hp1 S.sep1_2) fun x2 p2 tk2 hx2 sn2 hp2 => wpAny_pure ?_)
  replace hp2 : Heap.SameBut i2 p1 p2 := hp2
  refine wpAny_pure ?_
  refine wpAny_bind (wpAny_bind (wpAny_holding ?_))
  show wpAny _ _ (Builtin.SmallTypes.nextOf (.ref i3) >>= _) _ _ ⟨p2, g, d, tk2, os⟩
  refine wpAny_bind (D3.item i _ _ _ hlt3 (D3.over (D3.over (D3.over st3 hs0 S.zf3) hp1 S.sep1_3) hp2 S.sep2_3) fun x3 p3 tk3 hx3 sn3 hp3 => wpAny_pure ?_)
  replace hp3 : Heap.SameBut i3 p2 p3 := hp3
  refine wpAny_pure (wpAny_pure ?_)
  show wpAny _ _ (newTuple [x1, x2, x3] >>= _) _ _ _
  refine wpAny_bind (wpAny_newTuple ?_)
  have hsz : p3.objs.size = hp.objs.size := by rw [hp3.1, hp2.1, hp1.1, hs0.1]
  have hzz : IsZipHeld p3 z TI TO T true := hp3.extBut _ _ S.zi3 (hp2.extBut _ _ S.zi2 (hp1.extBut _ _ S.zi1 hz0))
  have hkk : ∀ c o, c ≠ z → c ≠ i1 → c ≠ i2 → c ≠ i3 → hp.get? c = some o → p3.get? c = some o := fun c o cz c1 c2 c3 e =>
    hp3.extBut _ _ c3 (hp2.extBut _ _ c2 (hp1.extBut _ _ c1 (hs0.extBut _ _ cz e)))
  have hj1 : St1 (i + 1) p3 := D1.over (D1.over sn1 hp2 S.sep2_1) hp3 S.sep3_1
  have hj2 : St2 (i + 1) p3 := D2.over sn2 hp3 S.sep3_2
  refine wpAny_pure ⟨_, rfl, ?_⟩
  have up : ∀ c o, p3.get? c = some o → (p3.push { cls := .type "tuple", data := .seq #[x1, x2, x3] }).get? c = some o := fun c o e => Heap.get?_push_of_some _ e
  have hT₈ : IsTupOf3 (p3.push { cls := .type "tuple", data := .seq #[x1, x2, x3] }) p3.objs.size x1 x2 x3 := Heap.get?_push_size _ rfl
  have hz8 : (p3.push { cls := .type "tuple", data := .seq #[x1, x2, x3] }).objs.size = p3.objs.size + 1 := Heap.size_push ..
  rw [hsz] at hT₈ hz8
  show Q (.ref p3.objs.size) ⟨_, g, d, tk3, os⟩
  rw [hsz]
  exact hQ x1 x2 x3 _ tk3 hx1 hx2 hx3 (up _ _ hzz) (D1.frame _ _ _ hj1 fun b _ o e => up b o e) (D2.frame _ _ _ hj2 fun b _ o e => up b o e) (D3.frame _ _ _ sn3 fun b _ o e => up b o e) hT₈ hz8 fun c o cz c1 c2 c3 e => up c o (hkk c o cz c1 c2 c3 e)
theorem end_held {Q : Fin → Shared → Prop} (S : ZipSep3 z TI TO i1 i2 i3 fp1 fp2 fp3) (D1 : Draws prog w A i1 fp1 n1 P1 St1)
    (hz : IsZipHeld s.heap z TI TO T f) (hT : s.heap.get? T = some oT) (hTI : IsTupOf3 s.heap TI (.ref i1) (.ref i2) (.ref i3)) (st1 : St1 n1 s.heap)
    (hE : ∀ h' tk e, (∀ c o, c ≠ z → c ≠ i1 → c ≠ i2 → c ≠ i3 → s.heap.get? c = some o → h'.get? c = some o) → (∃ o, h'.get? e = some o ∧ o.cls = .type "StopIteration") → E (.ref e) { s with heap := h', toks := tk }) :
    wpAny (model prog w) A (Builtin.«zip.__next__» ⟨[.ref z], []⟩) Q E s := by
  obtain ⟨hp, g, d, tk0, os⟩ := s
  show wpAny _ _ (field (.ref z) 2 >>= _) _ _ _
  refine wpAny_bind (wpAny_field hz rfl (x := .bool false) rfl ?_)
  show wpAny _ _ (field (.ref z) 3 >>= _) _ _ _
  refine wpAny_bind (wpAny_field hz rfl (x := .ref TI) rfl ?_)
  refine wpAny_bind (wpAny_seqItems hTI rfl ?_)
  show wpAny _ _ (Builtin.SmallTypes.ownedTupleIsFree (.ref z) >>= _) _ _ _
  refine wpAny_bind (wpAny_tupleHeld_zip hz hT fun g0 hz0 hs0 => ?_)
  simp only [Bool.false_eq_true, if_false]
  replace hs0 : Heap.SameBut z hp g0 := hs0
  refine wpAny_bind ?_
  rw [← Array.forIn_toList]
  simp only [List.forIn_cons, List.forIn_nil]
  refine wpAny_bind (wpAny_bind (wpAny_holding ?_))
  show wpAny _ _ (Builtin.SmallTypes.nextOf (.ref i1) >>= _) _ _ ⟨g0, g, d, tk0, os⟩
  refine wpAny_bind (D1.done ⟨g0, g, d, tk0, os⟩ _ _ (D1.over st1 hs0 S.zf1) fun q e hq he => ?_)
  exact hE q tk0 e (fun c o cz c1 c2 c3 x => hq _ _ c1 (hs0.extBut _ _ cz x)) he
theorem pyNext_held {Q : Option Value → Shared → Prop} (S : ZipSep3 z TI TO i1 i2 i3 fp1 fp2 fp3) (D1 : Draws prog w A.in1 i1 fp1 n1 P1 St1) (D2 : Draws prog w A.in1 i2 fp2 n2 P2 St2) (D3 : Draws prog w A.in1 i3 fp3 n3 P3 St3)
    (hz : IsZipHeld s.heap z TI TO T f) (hT : s.heap.get? T = some oT) (hTI : IsTupOf3 s.heap TI (.ref i1) (.ref i2) (.ref i3)) (st1 : St1 i s.heap) (st2 : St2 i s.heap) (st3 : St3 i s.heap) (hlt1 : i < n1) (hlt2 : i < n2) (hlt3 : i < n3)
    (hQ : ∀ x1 x2 x3 h' tk, P1 i x1 → P2 i x2 → P3 i x3 → IsZipHeld h' z TI TO T true → St1 (i + 1) h' → St2 (i + 1) h' → St3 (i + 1) h' → IsTupOf3 h' s.heap.objs.size x1 x2 x3 → h'.objs.size = s.heap.objs.size + 1 →
      (∀ c o, c ≠ z → c ≠ i1 → c ≠ i2 → c ≠ i3 → s.heap.get? c = some o → h'.get? c = some o) → Q (some (.ref s.heap.objs.size)) { s with heap := h', toks := tk }) :
    wpAny (model prog w) A (pyNext (.ref z)) Q E s := by
  have hTy : s.TypeIs (.ref z) "zip" := ⟨_, hz, rfl⟩
  unfold pyNext
  exact wpAny_bind (wpAny_attempt (wpAny_callSpecial?_slot (name := Str.ofString "__next__") hTy F.slot_zip_next
    (wpAny_call_entry F.slot_zip_next hTy F.entry_zip_next
      (next_held S D1 D2 D3 hz hT hTI st1 st2 st3 hlt1 hlt2 hlt3 fun x1 x2 x3 h' tk y1 y2 y3 b1 d1 d2 d3 b5 b6 b7 => wpAny_pure (hQ x1 x2 x3 h' tk y1 y2 y3 b1 d1 d2 d3 b5 b6 b7)) (F.args_zip_next_1 _))))
theorem pyEnd_held {Q : Option Value → Shared → Prop} (S : ZipSep3 z TI TO i1 i2 i3 fp1 fp2 fp3) (D1 : Draws prog w A.in1 i1 fp1 n1 P1 St1)
    (hz : IsZipHeld s.heap z TI TO T f) (hT : s.heap.get? T = some oT) (hTI : IsTupOf3 s.heap TI (.ref i1) (.ref i2) (.ref i3)) (st1 : St1 n1 s.heap)
    (hQ : ∀ h' tk, (∀ c o, c ≠ z → c ≠ i1 → c ≠ i2 → c ≠ i3 → s.heap.get? c = some o → h'.get? c = some o) → Q none { s with heap := h', toks := tk }) :
    wpAny (model prog w) A (pyNext (.ref z)) Q E s := by
  have hTy : s.TypeIs (.ref z) "zip" := ⟨_, hz, rfl⟩
  unfold pyNext
  refine wpAny_bind (wpAny_attempt (wpAny_callSpecial?_slot (name := Str.ofString "__next__") hTy F.slot_zip_next
    (wpAny_call_entry F.slot_zip_next hTy F.entry_zip_next (end_held S D1 hz hT hTI st1 fun h' tk e hk he => ?_) (F.args_zip_next_1 _))))
  obtain ⟨o, ho, hc⟩ := he
  refine wpAny_bind (wpAny_isInstance (T := "StopIteration") (b := true) ⟨o, ho, hc⟩ isSubtype_stop ?_)
  exact wpAny_pure (hQ _ _ hk)
end
theorem no_len : typeLookup (.type "zip") "__len__" = pure none := by rw [typeLookup_type, builtinLookup_eq_fast]; kernel_rfl
theorem no_hint : typeLookup (.type "zip") "__length_hint__" = pure none := by rw [typeLookup_type, builtinLookup_eq_fast]; kernel_rfl
end ZL
namespace ZL
open PySem PySem.Spec PyProof.Rows
section
variable {prog : Program} {w : World} {A : Around} {s : Shared} {R : Result → Shared → Prop} {z TI TO i1 i2 i3 t1 t2 t3 : Nat} {I1 I2 I3 : Array Value} {n : Nat}
def St (it t : Nat) (its : Array Value) : Nat → Heap → Prop := fun i h => h.IsTupleIter it t i ∧ h.IsTuple t its
structure KZ (z TI TO i1 i2 i3 t1 t2 t3 : Nat) (I1 I2 I3 : Array Value) (B : Nat) (i : Nat) (h : Heap) : Prop where
  ti : IsTupOf3 h TI (.ref i1) (.ref i2) (.ref i3)
  s1 : St i1 t1 I1 i h
  s2 : St i2 t2 I2 i h
  s3 : St i3 t3 I3 i h
  zz : (i = 0 ∧ IsZip h z TI TO .none ∧ IsTupOf3 h TO .none .none .none) ∨ ∃ (T : Nat) (f : Bool) (oT : Obj), IsZipHeld h z TI TO T f ∧ h.get? T = some oT ∧ B ≤ T
theorem KZ.keep {B : Nat} {i : Nat} {h h' : Heap} {S : Nat} (K : KZ z TI TO i1 i2 i3 t1 t2 t3 I1 I2 I3 B i h) (hS : S < B) (ns : ∀ c : Nat, c ∈ [z, TI, TO, i1, i2, i3, t1, t2, t3] → c ≠ S)
    (k : ∀ (c : Nat) o, c ≠ S → h.get? c = some o → h'.get? c = some o) : KZ z TI TO i1 i2 i3 t1 t2 t3 I1 I2 I3 B i h' where
  ti := k _ _ (ns _ (by simp)) K.ti
  s1 := ⟨K.s1.1.at fun o e => k _ o (ns _ (by simp)) e, K.s1.2.at fun o e => k _ o (ns _ (by simp)) e⟩
  s2 := ⟨K.s2.1.at fun o e => k _ o (ns _ (by simp)) e, K.s2.2.at fun o e => k _ o (ns _ (by simp)) e⟩
  s3 := ⟨K.s3.1.at fun o e => k _ o (ns _ (by simp)) e, K.s3.2.at fun o e => k _ o (ns _ (by simp)) e⟩
  zz := by
    rcases K.zz with ⟨e, h1, h2⟩ | ⟨T, f, oT, h1, h2, h3⟩
    · exact .inl ⟨e, k _ _ (ns _ (by simp)) h1, k _ _ (ns _ (by simp)) h2⟩
    · exact .inr ⟨T, f, oT, k _ _ (ns _ (by simp)) h1, k _ _ (by omega) h2, h3⟩
theorem loop {S B : Nat} (hh : A.handled = none) (Sp : ZipSep3 z TI TO i1 i2 i3 [i1, t1] [i2, t2] [i3, t3]) (nt1 : t1 ≠ i1) (nt2 : t2 ≠ i2) (nt3 : t3 ≠ i3) (ns : ∀ c : Nat, c ∈ [z, TI, TO, i1, i2, i3, t1, t2, t3] → c ≠ S) (lb : ∀ c : Nat, c ∈ [z, TI, TO, i1, i2, i3, t1, t2, t3] → c < B)
    (hSB : S < B) (z1 : I1.size = n) (z2 : I2.size = n) (z3 : I3.size = n) (hn0 : 0 < n) (hn : n ≤ sizeLine) (res : Value) {h₁ : Heap}
    (hR : ∀ h' tk acc c, (∀ (b : Nat) o, b ∉ [S, z, TO, i1, i2, i3] → h₁.get? b = some o → h'.get? b = some o) → h'.get? S = some { cls := .type "list", dict := none, data := .seq acc c, slots := #[] } →
      acc.toList = (List.range n).map (fun j => Value.ref (B + j)) → (∀ j, j < n → ∃ x1 x2 x3, I1[j]? = some x1 ∧ I2[j]? = some x2 ∧ I3[j]? = some x3 ∧ IsTupOf3 h' (B + j) x1 x2 x3) → R (.ok (.ret res)) { s with heap := h', toks := tk }) :
    ∀ (k i : Nat) (h : Heap) (tk c : Nat) (acc : Array Value), n - i = k → i ≤ n → KZ z TI TO i1 i2 i3 t1 t2 t3 I1 I2 I3 B i h → h.objs.size = B + i → (∀ (b : Nat) o, b ∉ [S, z, TO, i1, i2, i3] → h₁.get? b = some o → h.get? b = some o) →
      h.get? S = some { cls := .type "list", dict := none, data := .seq acc c, slots := #[] } → acc.toList = (List.range i).map (fun j => Value.ref (B + j)) →
      (∀ j, j < i → ∃ x1 x2 x3, I1[j]? = some x1 ∧ I2[j]? = some x2 ∧ I3[j]? = some x3 ∧ IsTupOf3 h (B + j) x1 x2 x3) →
      codeAny (model prog w) A (.builtin "list.extend.loop" ⟨[.ref S, .ref z, res], []⟩) R { s with heap := h, toks := tk } := by
  have nsz : z ≠ S := ns z (by simp)
  intro k
  induction k with
  | zero =>
    intro i h tk c acc hk hi K hsz hkeep hS hacc hG
    have hin : i = n := by omega
    refine codeAny_builtin PySem.F.entry_extend_loop ?_
    rw [Around.under_plainId PySem.F.plain_extend_loop _]
    show wpAny _ A.in1 (pyNext (.ref z) >>= _) _ _ _
    rcases K.zz with ⟨e, _⟩ | ⟨T, f, oT, hz, hT, hTB⟩
    · omega
    · have D1 := Draws.tuple (prog := prog) (w := w) (A := A.in1.in1) hh i1 t1 nt1 I1
      refine wpAny_bind (pyEnd_held (s := { s with heap := h, toks := tk }) Sp D1 hz hT K.ti (by rw [z1, ← hin]; exact K.s1) fun h' tk' he => ?_)
      have he : ∀ (c : Nat) o, c ≠ z → c ≠ i1 → c ≠ i2 → c ≠ i3 → h.get? c = some o → h'.get? c = some o := he
      have q := fun (c : Nat) (hc : c ∈ [z, TI, TO, i1, i2, i3, t1, t2, t3]) => lb c hc
      refine wpAny_pure (hR h' tk' acc c (fun b o hb e => ?_) (he S _ (Ne.symm (ns z (by simp))) (Ne.symm (ns i1 (by simp))) (Ne.symm (ns i2 (by simp))) (Ne.symm (ns i3 (by simp))) hS) (by rw [← hin]; exact hacc) fun j hj => ?_)
      · simp only [List.mem_cons, List.not_mem_nil, or_false, not_or] at hb
        exact he b o hb.2.1 hb.2.2.2.1 hb.2.2.2.2.1 hb.2.2.2.2.2 (hkeep b o (by simp only [List.mem_cons, List.not_mem_nil, or_false, not_or]; exact hb) e)
      · obtain ⟨x1, x2, x3, e1, e2, e3, e4⟩ := hG j (by omega)
        have b1 := q z (by simp); have b2 := q i1 (by simp); have b3 := q i2 (by simp); have b4 := q i3 (by simp)
        exact ⟨x1, x2, x3, e1, e2, e3, he _ _ (by omega) (by omega) (by omega) (by omega) e4⟩
  | succ k ih =>
    intro i h tk c acc hk hi K hsz hkeep hS hacc hG
    have hlt : i < n := by omega
    have hasz : acc.size = i := by rw [← Array.length_toList, hacc, List.length_map, List.length_range]
    have D1 := Draws.tuple (prog := prog) (w := w) (A := A.in1.in1) hh i1 t1 nt1 I1
    have D2 := Draws.tuple (prog := prog) (w := w) (A := A.in1.in1) hh i2 t2 nt2 I2
    have D3 := Draws.tuple (prog := prog) (w := w) (A := A.in1.in1) hh i3 t3 nt3 I3
    refine codeAny_builtin PySem.F.entry_extend_loop ?_
    rw [Around.under_plainId PySem.F.plain_extend_loop _]
    show wpAny _ A.in1 (pyNext (.ref z) >>= _) _ _ _
    refine wpAny_bind ?_
    -- what one turn gives
    have turn : ∀ x1 x2 x3 h' tk', I1[i]? = some x1 → I2[i]? = some x2 → I3[i]? = some x3 → (∃ (T : Nat) (f : Bool) (oT : Obj), IsZipHeld h' z TI TO T f ∧ h'.get? T = some oT ∧ B ≤ T) → St i1 t1 I1 (i + 1) h' → St i2 t2 I2 (i + 1) h' → St i3 t3 I3 (i + 1) h' →
        IsTupOf3 h' h.objs.size x1 x2 x3 → h'.objs.size = h.objs.size + 1 → (∀ (c : Nat) o, c ≠ z → c ≠ TO → c ≠ i1 → c ≠ i2 → c ≠ i3 → h.get? c = some o → h'.get? c = some o) →
        wpAny (model prog w) A.in1 (updateSeq S (·.push (Value.ref h.objs.size)) >>= fun _ => again (.builtin "list.extend.loop" ⟨[.ref S, .ref z, res], []⟩)) (fun fin s' => match fin with | .done f => R (.ok f) s' | .again c' => c'.quiet = true ∧ codeAny (model prog w) A c' R s') (fun e s' => R (.error e) s') { s with heap := h', toks := tk' } := by
      intro x1 x2 x3 h' tk' e1 e2 e3 hz' u1 u2 u3 ht hz hkp
      have hS' := hkp S _ (Ne.symm (ns z (by simp))) (Ne.symm (ns TO (by simp))) (Ne.symm (ns i1 (by simp))) (Ne.symm (ns i2 (by simp))) (Ne.symm (ns i3 (by simp))) hS
      have up : ∀ b o, b ≠ S → h'.get? b = some o → (h'.update S (Obj.mapSeq (·.push (Value.ref h.objs.size)))).get? b = some o := fun b o hb e => (Heap.get?_update_other _ _ (Ne.symm hb)).trans e
      have q := fun (c : Nat) (hc : c ∈ [z, TI, TO, i1, i2, i3, t1, t2, t3]) => lb c hc
      have b1 := q z (by simp); have b2 := q i1 (by simp); have b3 := q i2 (by simp); have b4 := q i3 (by simp); have b5 := q TO (by simp)
      have K1 : KZ z TI TO i1 i2 i3 t1 t2 t3 I1 I2 I3 B (i + 1) h' := ⟨hkp _ _ Sp.TIz Sp.TITO Sp.TIi1 Sp.TIi2 Sp.TIi3 K.ti, u1, u2, u3, .inr hz'⟩
      refine wpAny_bind ?_
      refine wpAny_updateSeq hS' rfl (wpAny_pure ⟨plainId_quiet PySem.F.plain_extend_loop _, ih (i + 1) _ tk' _ (acc.push (Value.ref h.objs.size)) (by omega) hlt (K1.keep hSB ns up) (by rw [Heap.size_update, hz, hsz]; rfl) (fun b o hb e => ?_) (Heap.get?_update_self _ hS' rfl) (by rw [Array.toList_push, hacc, List.range_succ, List.map_append, hsz]; rfl) fun j hj => ?_⟩) (by rw [hasz]; omega) (by show (acc.push (Value.ref h.objs.size)).size ≤ sizeLine + 1; rw [Array.size_push, hasz]; omega)
      · have hb2 := hb
        simp only [List.mem_cons, List.not_mem_nil, or_false, not_or] at hb2
        exact up b o hb2.1 (hkp b o hb2.2.1 hb2.2.2.1 hb2.2.2.2.1 hb2.2.2.2.2.1 hb2.2.2.2.2.2 (hkeep b o hb e))
      · by_cases hji : j = i
        · subst hji
          exact ⟨x1, x2, x3, e1, e2, e3, up _ _ (by omega) (by rw [← hsz]; exact ht)⟩
        · obtain ⟨y1, y2, y3, g1, g2, g3, g4⟩ := hG j (by omega)
          exact ⟨y1, y2, y3, g1, g2, g3, up _ _ (by omega) (hkp _ _ (by omega) (by omega) (by omega) (by omega) (by omega) g4)⟩
    rcases K.zz with ⟨e0, hz, hTO⟩ | ⟨T, f, oT, hz, hT, hTB⟩
    · refine wpAny_pyNext_zipD3_item (s := { s with heap := h, toks := tk }) Sp D1 D2 D3 hz K.ti hTO K.s1 K.s2 K.s3 (by omega) (by omega) (by omega) fun x1 x2 x3 h' tk' y1 y2 y3 b1 b2 d1 d2 d3 b5 b6 b7 => ?_
      have b5 : IsTupOf3 h' h.objs.size x1 x2 x3 := b5
      exact turn x1 x2 x3 h' tk' y1 y2 y3 ⟨h.objs.size, false, _, b1, b5, by omega⟩ d1 d2 d3 b5 b6 b7
    · refine pyNext_held (s := { s with heap := h, toks := tk }) Sp D1 D2 D3 hz hT K.ti K.s1 K.s2 K.s3 (by omega) (by omega) (by omega) fun x1 x2 x3 h' tk' y1 y2 y3 b1 d1 d2 d3 b5 b6 b7 => ?_
      have b7 : ∀ (c : Nat) o, c ≠ z → c ≠ i1 → c ≠ i2 → c ≠ i3 → h.get? c = some o → h'.get? c = some o := b7
      have q := fun (c : Nat) (hc : c ∈ [z, TI, TO, i1, i2, i3, t1, t2, t3]) => lb c hc
      have c1 := q z (by simp); have c2 := q i1 (by simp); have c3 := q i2 (by simp); have c4 := q i3 (by simp)
      exact turn x1 x2 x3 h' tk' y1 y2 y3 ⟨T, true, oT, b1, b7 T oT (by omega) (by omega) (by omega) (by omega) hT, hTB⟩ d1 d2 d3 b5 b6 fun c o n1 _ n3 n4 n5 e => b7 c o n1 n3 n4 n5 e
end
end ZL
namespace ZL
open PySem PySem.Spec PyProof.Rows
section
variable {prog : Program} {w : World} {A : Around} {E : Value → Shared → Prop} {s : Shared} {z TI TO i1 i2 i3 t1 t2 t3 : Nat} {I1 I2 I3 : Array Value} {n : Nat}
theorem extend {R : Result → Shared → Prop} (hh : A.handled = none) (Sp : ZipSep3 z TI TO i1 i2 i3 [i1, t1] [i2, t2] [i3, t3]) (nt1 : t1 ≠ i1) (nt2 : t2 ≠ i2) (nt3 : t3 ≠ i3) (S : Nat) (ns : ∀ c : Nat, c ∈ [z, TI, TO, i1, i2, i3, t1, t2, t3] → c ≠ S) (lb : ∀ c : Nat, c ∈ [z, TI, TO, i1, i2, i3, t1, t2, t3] → c < s.heap.objs.size)
    (K0 : KZ z TI TO i1 i2 i3 t1 t2 t3 I1 I2 I3 s.heap.objs.size 0 s.heap) (hz : IsZip s.heap z TI TO .none) (z1 : I1.size = n) (z2 : I2.size = n) (z3 : I3.size = n) (hn0 : 0 < n) (hn : n ≤ sizeLine) (res : Value) (c₀ : Nat) (hS : s.heap.get? S = some { cls := .type "list", data := .seq #[] c₀ })
    (hR : ∀ h' tk acc c, (∀ (b : Nat) o, b ∉ [S, z, TO, i1, i2, i3] → s.heap.get? b = some o → h'.get? b = some o) → h'.get? S = some { cls := .type "list", dict := none, data := .seq acc c, slots := #[] } →
      acc.toList = (List.range n).map (fun j => Value.ref (s.heap.objs.size + j)) → (∀ j, j < n → ∃ x1 x2 x3, I1[j]? = some x1 ∧ I2[j]? = some x2 ∧ I3[j]? = some x3 ∧ IsTupOf3 h' (s.heap.objs.size + j) x1 x2 x3) → R (.ok (.ret res)) { s with heap := h', toks := tk }) :
    wpAny (model prog w) A.in1 (Builtin.List.listExtendWith (.ref S) (.ref z) res)
      (fun fin s' => match fin with | .done f => R (.ok f) s' | .again c' => c'.quiet = true ∧ codeAny (model prog w) A c' R s') (fun e s' => R (.error e) s') s := by
  have hSI : S < s.heap.objs.size := Heap.lt_size hS
  have hT : s.TypeIs (.ref z) "zip" := ⟨_, hz, rfl⟩
  have nsz : z ≠ S := ns z (by simp)
  have key : ∀ (h : Heap) (c₁ tk : Nat), (∀ (b : Nat) o, b ≠ S → s.heap.get? b = some o → h.get? b = some o) → h.objs.size = s.heap.objs.size →
      h.get? S = some { cls := .type "list", data := .seq #[] c₁ } → codeAny (model prog w) A (.builtin "list.extend.loop" ⟨[.ref S, .ref z, res], []⟩) R { s with heap := h, toks := tk } := by
    intro h c₁ tk hk hsz hS₁
    refine loop (s := s) (h₁ := s.heap) (B := s.heap.objs.size) hh Sp nt1 nt2 nt3 ns lb hSI z1 z2 z3 hn0 hn res hR n 0 h tk c₁ #[] (Nat.sub_zero _) (Nat.zero_le _) (K0.keep hSI ns hk) (by rw [hsz]; rfl) (fun b o hb e => ?_) hS₁ rfl (fun j hj => absurd hj (Nat.not_lt_zero _))
    simp only [List.mem_cons, List.not_mem_nil, or_false, not_or] at hb
    exact hk b o hb.1 e
  unfold Builtin.List.listExtendWith
  refine wpAny_bind (wpAny_typeOf (T := "zip") hT ?_)
  have h1 : Builtin.List.listSameRef (.ref S) (.ref z) = false := by simp [Builtin.List.listSameRef, Ne.symm nsz]
  have h2 : (Value.type "zip" == Value.type "list") = false := by decide
  have h3 : (Value.type "zip" == Value.type "tuple") = false := by decide
  simp only [h1, h2, h3, Bool.or_false, Bool.false_eq_true, if_false]
  refine wpAny_bind (wpAny_pyIter_zip hz ?_)
  refine wpAny_bind (wpAny_holding ?_)
  unfold Builtin.List.listLengthHint
  refine wpAny_bind (wpAny_specialOf hT no_len ?_)
  show wpAny _ A.in1 (specialOf (Value.ref z) (Str.ofString "__length_hint__") >>= _) _ _ _
  refine wpAny_bind (wpAny_specialOf hT no_hint ?_)
  refine wpAny_pure ?_
  refine wpAny_ite_split (fun _ => ?_) (fun _ => wpAny_pure ⟨plainId_quiet PySem.F.plain_extend_loop _, key _ c₀ _ (fun b o _ e => e) rfl hS⟩)
  refine wpAny_bind (wpAny_rule ?_)
  refine wpAny_bind ?_
  show wpAny _ _ (updateSeq S (·.push .none) >>= fun _ => updateSeq S (·.pop)) _ _ _
  refine wpAny_bind (wpAny_updateSeq hS rfl ?_)
  have hS₂ := Heap.get?_update_self (Obj.mapSeq (·.push Value.none)) hS rfl
  refine wpAny_updateSeq (hz := by seq_fits) hS₂ rfl ?_
  have hS₃ := Heap.get?_update_self (Obj.mapSeq (·.pop)) hS₂ rfl
  refine wpAny_pure ⟨plainId_quiet PySem.F.plain_extend_loop _, key _ _ _ (fun b o hb e => ?_) (by rw [Heap.size_update, Heap.size_update]) hS₃⟩
  exact (Heap.get?_update_other _ _ (Ne.symm hb)).trans ((Heap.get?_update_other _ _ (Ne.symm hb)).trans e)
theorem init {R : Result → Shared → Prop} (hh : A.handled = none) (Sp : ZipSep3 z TI TO i1 i2 i3 [i1, t1] [i2, t2] [i3, t3]) (nt1 : t1 ≠ i1) (nt2 : t2 ≠ i2) (nt3 : t3 ≠ i3) (S : Nat) (ns : ∀ c : Nat, c ∈ [z, TI, TO, i1, i2, i3, t1, t2, t3] → c ≠ S) (lb : ∀ c : Nat, c ∈ [z, TI, TO, i1, i2, i3, t1, t2, t3] → c < s.heap.objs.size)
    (K0 : KZ z TI TO i1 i2 i3 t1 t2 t3 I1 I2 I3 s.heap.objs.size 0 s.heap) (hz : IsZip s.heap z TI TO .none) (z1 : I1.size = n) (z2 : I2.size = n) (z3 : I3.size = n) (hn0 : 0 < n) (hn : n ≤ sizeLine) (hS : s.heap.get? S = some { cls := .type "list", data := .seq #[] })
    (hR : ∀ h' tk acc c, (∀ (b : Nat) o, b ∉ [S, z, TO, i1, i2, i3] → s.heap.get? b = some o → h'.get? b = some o) → h'.get? S = some { cls := .type "list", dict := none, data := .seq acc c, slots := #[] } →
      acc.toList = (List.range n).map (fun j => Value.ref (s.heap.objs.size + j)) → (∀ j, j < n → ∃ x1 x2 x3, I1[j]? = some x1 ∧ I2[j]? = some x2 ∧ I3[j]? = some x3 ∧ IsTupOf3 h' (s.heap.objs.size + j) x1 x2 x3) → R (.ok (.ret .none)) { s with heap := h', toks := tk }) :
    wpAny (model prog w) A.in1 (Builtin.«list.__init__» ⟨[.ref S, .ref z], []⟩)
      (fun fin s' => match fin with | .done f => R (.ok f) s' | .again c' => c'.quiet = true ∧ codeAny (model prog w) A c' R s') (fun e s' => R (.error e) s') s := by
  have nsz : z ≠ S := ns z (by simp)
  show wpAny _ _ (do let old ← Builtin.List.listItems (.ref S); Builtin.List.listUpdate (.ref S) (fun _ => #[]); letGo old.toList.reverse; Builtin.List.listExtendWith (.ref S) (.ref z) .none) _ _ s
  refine wpAny_bind ?_
  unfold Builtin.List.listItems
  refine wpAny_bind (wpAny_seqItems hS rfl (wpAny_pure ?_))
  show wpAny _ _ (updateSeq S (fun _ => #[]) >>= fun _ => letGo (#[] : Array Value).toList.reverse >>= fun _ => Builtin.List.listExtendWith (.ref S) (.ref z) .none) _ _ s
  refine wpAny_bind (wpAny_updateSeq hS rfl ?_)
  have hS₂ := Heap.get?_update_self (Obj.mapSeq (fun _ => (#[] : Array Value))) hS rfl
  have oth : ∀ (b : Nat) o, b ≠ S → s.heap.get? b = some o → (s.heap.update S (Obj.mapSeq (fun _ => (#[] : Array Value)))).get? b = some o :=
    fun b o hb e => (Heap.get?_update_other _ _ (Ne.symm hb)).trans e
  have hsz : (s.heap.update S (Obj.mapSeq (fun _ => (#[] : Array Value)))).objs.size = s.heap.objs.size := Heap.size_update ..
  refine wpAny_bind (wpAny_letGo ?_)
  refine extend (s := { s with heap := s.heap.update S (Obj.mapSeq (fun _ => (#[] : Array Value))) }) hh Sp nt1 nt2 nt3 S ns (fun c hc => by show c < (s.heap.update S _).objs.size; rw [hsz]; exact lb c hc) (by show KZ _ _ _ _ _ _ _ _ _ _ _ _ (s.heap.update S _).objs.size _ _; rw [hsz]; exact K0.keep (Heap.lt_size hS) ns oth) (oth _ _ nsz hz) z1 z2 z3 hn0 hn .none _ hS₂ fun h' tk acc c hk hS' hacc hG => ?_
  have hacc : acc.toList = (List.range n).map (fun j => Value.ref ((s.heap.update S (Obj.mapSeq (fun _ => (#[] : Array Value)))).objs.size + j)) := hacc
  have hG : ∀ j, j < n → ∃ x1 x2 x3, I1[j]? = some x1 ∧ I2[j]? = some x2 ∧ I3[j]? = some x3 ∧ IsTupOf3 h' ((s.heap.update S (Obj.mapSeq (fun _ => (#[] : Array Value)))).objs.size + j) x1 x2 x3 := hG
  rw [hsz] at hacc hG
  refine hR h' tk acc c (fun b o hb e => hk b o hb (oth b o ?_ e)) hS' hacc hG
  simp only [List.mem_cons, List.not_mem_nil, or_false, not_or] at hb
  exact hb.1
theorem call_list {Q : Value → Shared → Prop} (hh : A.handled = none) (Sp : ZipSep3 z TI TO i1 i2 i3 [i1, t1] [i2, t2] [i3, t3]) (nt1 : t1 ≠ i1) (nt2 : t2 ≠ i2) (nt3 : t3 ≠ i3) (lb : ∀ c : Nat, c ∈ [z, TI, TO, i1, i2, i3, t1, t2, t3] → c < s.heap.objs.size)
    (ti : IsTupOf3 s.heap TI (.ref i1) (.ref i2) (.ref i3)) (hTO : IsTupOf3 s.heap TO .none .none .none) (s1 : St i1 t1 I1 0 s.heap) (s2 : St i2 t2 I2 0 s.heap) (s3 : St i3 t3 I3 0 s.heap) (hz : IsZip s.heap z TI TO .none) (z1 : I1.size = n) (z2 : I2.size = n) (z3 : I3.size = n) (hn0 : 0 < n) (hn : n ≤ sizeLine)
    (hQ : ∀ h' tk acc c, (∀ (b : Nat) o, b ∉ [z, TO, i1, i2, i3] → s.heap.get? b = some o → h'.get? b = some o) → h'.get? s.heap.objs.size = some { cls := .type "list", dict := none, data := .seq acc c, slots := #[] } →
      acc.toList = (List.range n).map (fun j => Value.ref (s.heap.objs.size + 1 + j)) → (∀ j, j < n → ∃ x1 x2 x3, I1[j]? = some x1 ∧ I2[j]? = some x2 ∧ I3[j]? = some x3 ∧ IsTupOf3 h' (s.heap.objs.size + 1 + j) x1 x2 x3) → Q (.ref s.heap.objs.size) { s with heap := h', toks := tk }) :
    wpAny (model prog w) A (call (.type "list") [.ref z]) Q E s := by
  refine callType_codes (Q₁ := fun obj s₁ => obj = .ref s.heap.objs.size ∧ s₁ = { s with heap := s.heap.push { cls := .type "list", data := .seq #[] } }) PySem.F.called_list (PySem.F.typeCall_list_1 _) PySem.F.entry_list_init
    (code_list_new _ ⟨rfl, rfl⟩) fun obj s₁ h₁ => ?_
  obtain ⟨rfl, rfl⟩ := h₁
  have hS : (s.heap.push { cls := .type "list", data := .seq #[] }).get? s.heap.objs.size = some { cls := .type "list", data := .seq #[] } := Heap.get?_push_size _ rfl
  have up : ∀ (b : Nat) o, s.heap.get? b = some o → (s.heap.push { cls := .type "list", data := .seq #[] }).get? b = some o := fun b o e => Heap.get?_push_of_some _ e
  have hsz : (s.heap.push { cls := .type "list", data := .seq #[] }).objs.size = s.heap.objs.size + 1 := Heap.size_push ..
  refine ⟨⟨_, hS, rfl⟩, PySem.F.args_list_init_2 _ _, init (A := A.in1) (I1 := I1) (I2 := I2) (I3 := I3) (n := n) hh Sp nt1 nt2 nt3 _ (fun c hc => Nat.ne_of_lt (lb c hc)) (fun c hc => by show c < (s.heap.push _).objs.size; rw [hsz]; exact Nat.lt_succ_of_lt (lb c hc)) ⟨up _ _ ti, ⟨s1.1.at fun o e => up _ o e, s1.2.at fun o e => up _ o e⟩, ⟨s2.1.at fun o e => up _ o e, s2.2.at fun o e => up _ o e⟩, ⟨s3.1.at fun o e => up _ o e, s3.2.at fun o e => up _ o e⟩, .inl ⟨rfl, up _ _ hz, up _ _ hTO⟩⟩ (up _ _ hz) z1 z2 z3 hn0 hn hS (fun h' tk acc c hk hS' hacc hG => ?_)⟩
  have hacc : acc.toList = (List.range n).map (fun j => Value.ref ((s.heap.push { cls := .type "list", data := .seq #[] }).objs.size + j)) := hacc
  have hG : ∀ j, j < n → ∃ x1 x2 x3, I1[j]? = some x1 ∧ I2[j]? = some x2 ∧ I3[j]? = some x3 ∧ IsTupOf3 h' ((s.heap.push { cls := .type "list", data := .seq #[] }).objs.size + j) x1 x2 x3 := hG
  rw [hsz] at hacc hG
  refine ⟨rfl, hQ h' tk acc c (fun b o hb e => hk b o ?_ (up b o e)) hS' hacc hG⟩
  simp only [List.mem_cons, List.not_mem_nil, or_false, not_or] at hb ⊢
  exact ⟨Nat.ne_of_lt (Heap.lt_size e), hb⟩
end
end ZL
namespace AL
open PySem PySem.Spec PyProof.Rows L2
/-- many new objects, laid behind what stood -/
theorem laidAll {X : Cx} {pins : List (Addr × Obj)} {σ : L2.St} {H H' : Hp} {s : Shared} {h' : Heap} {t' : Nat} (I : Inv X pins σ H s) (k : ∀ b u, s.heap.get? b = some u → h'.get? b = some u)
    (old : ∀ b : Nat, b < s.heap.objs.size → H' b = H b) (new : ∀ (b : Nat) o, s.heap.objs.size ≤ b → H' b = some o → ObjOk X.prog X.w H' h' b o) : Inv X pins σ H' { s with heap := h', toks := t' } := by
  have lt : ∀ (b : Nat) o, H b = some o → b < s.heap.objs.size := fun b o e => (I.hok b o e).lt
  have same : ∀ (b : Nat) o, H b = some o → H' b = some o := fun b o e => (old b (lt b o e)).trans e
  refine I.un ⟨fun b ob q _ _ _ => k b ob q, fun b ob q _ _ _ => ⟨ob.slots, k b ob q⟩, fun b ob q n _ => (old b (Heap.lt_size q)).trans n, fun b ob q _ => ⟨ob, k b ob q⟩, fun b xs q => same b _ q, fun b o u q => same b _ q, fun b ps q => ⟨#[], by rw [same b _ q]; simp⟩⟩ fun b u e => ?_
  by_cases hb : (b : Nat) < s.heap.objs.size
  · rw [old b hb] at e
    exact (I.hok b u e).stay (fun c v _ q => k c v q) (fun c q => same c _ q) fun c xs q => same c _ q
  · exact new b u (Nat.le_of_not_lt hb) e
theorem same_laid {H H' : Hp} {s : Shared} {X : Cx} {pins : List (Addr × Obj)} {σ : L2.St} (I : Inv X pins σ H s) (old : ∀ b : Nat, b < s.heap.objs.size → H' b = H b) : Same H H' := fun b o e => (old b (I.hok b o e).lt).trans e
theorem lt_ne {x B : Nat} (h : x < B) (k : Nat) : x ≠ B + k := Nat.ne_of_lt (Nat.lt_of_lt_of_le h (Nat.le_add_right _ _))
def tZip3 (K : PySem.W.Frag) (t : TA) : TE := fun σ H Q => t σ H fun vs H1 => ∃ (a1 a2 a3 : Addr) (xs ys zs : List V), vs = [.ref a1, .ref a2, .ref a3] ∧ SqT K H1 a1 xs ∧ SqT K H1 a2 ys ∧ SqT K H1 a3 zs ∧ ys.length = xs.length ∧ zs.length = xs.length ∧ 0 < xs.length ∧
  ∀ (p : Nat) H', H1 p = none → Same H1 H' → H' p = some (.lst ((List.range xs.length).map fun j => V.ref (p + 1 + j))) → (∀ (j : Nat) x y z, xs[j]? = some x → ys[j]? = some y → zs[j]? = some z → H' (p + 1 + j) = some (.tup [x, y, z])) → Q (.ref p) H'
theorem vals_refsR {n : Nat} {f : Nat → Nat} : Vals ((List.range n).map fun j => V.ref (f j)) ((List.range n).map fun j => Value.ref (f j)) := by
  generalize List.range n = l
  induction l with
  | nil => exact .nil
  | cons a l ih => exact .cons rfl ih
theorem pe_zip3 {X : Cx} {a b c : Expr} {t : TA} {p p2 q pos : Pos} (hml : X.mg "list" = none) (hmz : X.mg "zip" = none) (ha : PA X [a, b, c] t) (hc : X.calm = true) (hgl : Gl X "list") (hgz : Gl X "zip")
    (hs : starEach [a, b, c] X.env = (false, eval a X.env) :: starEach [b, c] X.env) (hpl : (backTo q (starEach [b, c] X.env)).any (·.1) = false)
    (he : starEach [Expr.Call (.Name "zip" p2) [a, b, c] [] q] X.env = (false, eval (.Call (.Name "zip" p2) [a, b, c] [] q) X.env) :: starEach [] X.env)
    (hcl : eval (.Call (.Name "list" p) [.Call (.Name "zip" p2) [a, b, c] [] q] [] pos) X.env = (do callWith pos (← eval (.Name "list" p) X.env) [] (backTo pos (starEach [.Call (.Name "zip" p2) [a, b, c] [] q] X.env)) (backToKw pos (keywordEach [] X.env))))
    (hcz : eval (.Call (.Name "zip" p2) [a, b, c] [] q) X.env = (do callWith q (← eval (.Name "zip" p2) X.env) [] (backTo q (starEach [a, b, c] X.env)) (backToKw q (keywordEach [] X.env)))) :
    PE X (.Call (.Name "list" p) [.Call (.Name "zip" p2) [a, b, c] [] q] [] pos) (tZip3 X.K t) := by
  refine ⟨fun pins s σ H Q I h => ?_⟩
  refine Call_ (ld_blt I hgl hml PyProof.Rows.boot_list ?_) hcl
  refine PyProof.Rows.callWith_type1 ?_ he rfl
  rw [he]
  show wpAny _ _ (spliced ((false, eval (.Call (.Name "zip" p2) [a, b, c] [] q) X.env) :: backTo pos (starEach [] X.env))) _ _ s
  refine Calls.spliced_cons ?_
  refine Call_ (ld_blt I hgz hmz PyProof.Rows.boot_zip (PyProof.Rows.callWith_type1 (thn (ha.run q pins s σ H _ I h) fun us s1 ⟨vs, H1, I1, r1, q1⟩ => ?_) hs hpl)) hcz
  obtain ⟨a1, a2, a3, xs, ys, zs, rfl, k1, k2, k3, l2, l3, l0, fin⟩ := q1
  cases r1 with
  | cons r ra =>
    cases ra with
    | cons r' rb =>
      cases rb with
      | cons r'' rc =>
        cases rc
        cases r
        cases r'
        cases r''
        obtain ⟨t1, rv1, p1, z1⟩ := I1.tuple k1
        obtain ⟨t2, rv2, p2, z2⟩ := I1.tuple k2
        obtain ⟨t3, rv3, p3, z3⟩ := I1.tuple k3
        have g1 : s1.heap.IsTuple a1 t1.toArray := p1
        have g2 : s1.heap.IsTuple a2 t2.toArray := p2
        have g3 : s1.heap.IsTuple a3 t3.toArray := p3
        have b1 : (a1 : Nat) < s1.heap.objs.size := let ⟨_, q, _⟩ := p1; Heap.lt_size q
        have b2 : (a2 : Nat) < s1.heap.objs.size := let ⟨_, q, _⟩ := p2; Heap.lt_size q
        have b3 : (a3 : Nat) < s1.heap.objs.size := let ⟨_, q, _⟩ := p3; Heap.lt_size q
        refine zip_begins3 (begins_tuple a1 t1.toArray) (begins_tuple a2 t2.toArray) (begins_tuple a3 t3.toArray) g1 g2 g3 fun h' hz hTI hTO y1 y2 y3 hsz hk => ?_
        refine Calls.spliced_nil ?_
        have hh : X.A.handled = none := I1.ok.hd hc
        generalize hB : s1.heap.objs.size = B at *
        have Sp : ZipSep3 (B + 5) (B + 3) (B + 4) B (B + 1) (B + 2) [B, a1] [B + 1, a2] [B + 2, a3] := by
          have e1 : (a1 : Nat) < B := b1
          have e2 : (a2 : Nat) < B := b2
          have e3 : (a3 : Nat) < B := b3
          have nm : ∀ x y t : Nat, x ≠ y → x ≠ t → x ∉ [y, t] := fun x y t h1 h2 hm => by
            simp only [List.mem_cons, List.not_mem_nil, or_false] at hm
            exact hm.elim h1 h2
          have ne : ∀ x y : Nat, x < y → x ≠ y := fun x y h => Nat.ne_of_lt h
          have ne' : ∀ x y : Nat, y < x → x ≠ y := fun x y h => Nat.ne_of_gt h
          have e1' : ∀ k : Nat, B + k ≠ a1 := fun k => (lt_ne b1 k).symm
          have e2' : ∀ k : Nat, B + k ≠ a2 := fun k => (lt_ne b2 k).symm
          have e3' : ∀ k : Nat, B + k ≠ a3 := fun k => (lt_ne b3 k).symm
          exact ⟨ne _ _ (by omega), ne _ _ (by omega), ne _ _ (by omega), ne' _ _ (by omega), by simp, nm _ _ _ (ne' _ _ (by omega)) (e1' 5), nm _ _ _ (ne' _ _ (by omega)) (e1' 4), ne' _ _ (by omega), by simp, nm _ _ _ (ne' _ _ (by omega)) (e2' 5), nm _ _ _ (ne' _ _ (by omega)) (e2' 4), ne' _ _ (by omega), by simp, nm _ _ _ (ne' _ _ (by omega)) (e3' 5), nm _ _ _ (ne' _ _ (by omega)) (e3' 4), nm _ _ _ (ne _ _ (by omega)) (e2' 0), nm _ _ _ (ne _ _ (by omega)) (e3' 0), nm _ _ _ (ne' _ _ (by omega)) (e1' 1), nm _ _ _ (ne _ _ (by omega)) (e3' 1), nm _ _ _ (ne' _ _ (by omega)) (e1' 2), nm _ _ _ (ne' _ _ (by omega)) (e2' 2)⟩
        have n1 := rv1.length
        have n2 := rv2.length
        have n3 := rv3.length
        have lb : ∀ c : Nat, c ∈ [B + 5, B + 3, B + 4, B, B + 1, B + 2, a1, a2, a3] → c < h'.objs.size := fun c hc => by
          have e1 : (a1 : Nat) < B := b1
          have e2 : (a2 : Nat) < B := b2
          have e3 : (a3 : Nat) < B := b3
          rw [hsz]
          simp only [List.mem_cons, List.not_mem_nil, or_false] at hc
          rcases hc with h | h | h | h | h | h | h | h | h
          · omega
          · omega
          · omega
          · omega
          · omega
          · omega
          · rw [h]; exact Nat.lt_of_lt_of_le b1 (Nat.le_add_right _ _)
          · rw [h]; exact Nat.lt_of_lt_of_le b2 (Nat.le_add_right _ _)
          · rw [h]; exact Nat.lt_of_lt_of_le b3 (Nat.le_add_right _ _)
        refine ZL.call_list (s := { s1 with heap := h' }) (z := B + 5) (TI := B + 3) (TO := B + 4) (i1 := B) (i2 := B + 1) (i3 := B + 2) (t1 := a1) (t2 := a2) (t3 := a3) (I1 := t1.toArray) (I2 := t2.toArray) (I3 := t3.toArray) (n := xs.length) hh Sp (Nat.ne_of_lt b1) (Nat.ne_of_lt (Nat.lt_trans b2 (Nat.lt_succ_self _))) (Nat.ne_of_lt (Nat.lt_trans b3 (by omega))) lb hTI hTO ⟨⟨_, y1, rfl, rfl⟩, g1.at fun o e => hk _ o e⟩ ⟨⟨_, y2, rfl, rfl⟩, g2.at fun o e => hk _ o e⟩ ⟨⟨_, y3, rfl, rfl⟩, g3.at fun o e => hk _ o e⟩ hz (by simp; omega) (by simp; omega) (by simp; omega) l0 z1 fun h2 tk acc c2 kp hS hacc hG => ?_
        have hS : h2.get? h'.objs.size = some { cls := .type "list", dict := none, data := .seq acc c2, slots := #[] } := hS
        have hacc : acc.toList = (List.range xs.length).map (fun j => Value.ref (h'.objs.size + 1 + j)) := hacc
        have hG : ∀ j, j < xs.length → ∃ x1 x2 x3, t1.toArray[j]? = some x1 ∧ t2.toArray[j]? = some x2 ∧ t3.toArray[j]? = some x3 ∧ IsTupOf3 h2 (h'.objs.size + 1 + j) x1 x2 x3 := hG
        have kp : ∀ (b : Nat) o, b ∉ [B + 5, B + 4, B, B + 1, B + 2] → h'.get? b = some o → h2.get? b = some o := kp
        generalize hSS : h'.objs.size = S at *
        let H' : Hp := fun b => if b = S then some (.lst ((List.range xs.length).map fun j => V.ref (S + 1 + j))) else if S + 1 ≤ (b : Nat) ∧ (b : Nat) < S + 1 + xs.length then some (.tup [xs.getD ((b : Nat) - (S + 1)) .non, ys.getD ((b : Nat) - (S + 1)) .non, zs.getD ((b : Nat) - (S + 1)) .non]) else H1 b
        have old : ∀ b : Nat, b < s1.heap.objs.size → H' b = H1 b := fun b hb => by
          show (if b = S then _ else _) = _
          rw [if_neg (by omega), if_neg (by omega)]
        have kk : ∀ b u, s1.heap.get? b = some u → h2.get? b = some u := fun b u e => kp b u (by
          have hb : (b : Nat) < s1.heap.objs.size := Heap.lt_size e
          simp only [List.mem_cons, List.not_mem_nil, or_false, not_or]
          rw [hB] at hb
          exact ⟨lt_ne hb 5, lt_ne hb 4, lt_ne hb 0, lt_ne hb 1, lt_ne hb 2⟩) (hk b u e)
        have tupAt : ∀ j x y z, xs[j]? = some x → ys[j]? = some y → zs[j]? = some z → H' (S + 1 + j) = some (.tup [x, y, z]) := fun j x y z e1 e2 e3 => by
          have hj : j < xs.length := (List.getElem?_eq_some_iff.mp e1).1
          show (if S + 1 + j = S then _ else _) = _
          have hne : ∀ m k : Nat, m + 1 + k ≠ m := fun m k => by omega
          rw [if_neg (hne S j), if_pos ⟨Nat.le_add_right _ _, Nat.add_lt_add_left hj _⟩]
          have hjj : S + 1 + j - (S + 1) = j := by omega
          rw [hjj, List.getD_eq_getElem?_getD, List.getD_eq_getElem?_getD, List.getD_eq_getElem?_getD, e1, e2, e3]
          rfl
        have I2 : Inv X pins σ H' { s1 with heap := h2, toks := tk } := laidAll I1 kk old fun b o hb e => by
          by_cases h1 : b = S
          · have e : (if b = S then _ else _) = some o := e
            rw [if_pos h1] at e
            cases e
            refine ⟨by rw [List.length_map, List.length_range]; exact z1, acc.toList, c2, ?_, ?_⟩
            · rw [hacc]; exact vals_refsR
            · rw [Array.toArray_toList, h1]; exact hS
          · have e0 : (if b = S then _ else _) = some o := e
            rw [if_neg h1] at e0
            by_cases h2b : S + 1 ≤ b ∧ b < S + 1 + xs.length
            · obtain ⟨j, hj, rfl⟩ : ∃ j, j < xs.length ∧ b = S + 1 + j := ⟨b - (S + 1), by omega, by omega⟩
              obtain ⟨x1, x2, x3, e1, e2, e3, e4⟩ := hG j hj
              have q1 : xs[j]? = some xs[j] := List.getElem?_eq_getElem hj
              have q2 : ys[j]? = some (ys[j]'(by omega)) := List.getElem?_eq_getElem (by omega)
              have q3 : zs[j]? = some (zs[j]'(by omega)) := List.getElem?_eq_getElem (by omega)
              have e5 := tupAt j _ _ _ q1 q2 q3
              rw [e] at e5
              cases e5
              obtain ⟨u1, w1, r1⟩ := rv1.get q1
              obtain ⟨u2, w2, r2⟩ := rv2.get q2
              obtain ⟨u3, w3, r3⟩ := rv3.get q3
              have d1 : x1 = u1 := by
                have z : t1[j]? = some x1 := by simpa using e1
                rw [w1] at z; exact (Option.some.inj z).symm
              have d2 : x2 = u2 := by
                have z : t2[j]? = some x2 := by simpa using e2
                rw [w2] at z; exact (Option.some.inj z).symm
              have d3 : x3 = u3 := by
                have z : t3[j]? = some x3 := by simpa using e3
                rw [w3] at z; exact (Option.some.inj z).symm
              subst d1 d2 d3
              exact ⟨by show 3 ≤ sizeLine; decide, [x1, x2, x3], .cons r1 (.cons r2 (.cons r3 .nil)), ⟨_, e4, rfl, _, rfl⟩⟩
            · rw [if_neg h2b] at e0
              have := (I1.hok b o e0).lt
              have this : (b : Nat) < s1.heap.objs.size := this
              omega
        have hn : H1 S = none := I1.hok.fresh (by show s1.heap.objs.size ≤ S; omega)
        exact ⟨.ref S, H', I2, rfl, fin S H' hn (same_laid I1 old) (if_pos rfl) tupAt⟩
end AL
namespace AL
open PySem L2
def zip3D : List D → List D → List D → List D
  | x :: xs, y :: ys, z :: zs => .tup [x, y, z] :: zip3D xs ys zs
  | _, _, _ => []
def fZip3 (g : AA) : AE := fun ds M => match g ds M with
  | some ([.tup xs, .tup ys, .tup zs], M1) => if xs.length ≤ 1000 ∧ ys.length = xs.length ∧ zs.length = xs.length ∧ 0 < xs.length then some (.ref M1.nx, M1.new (.lst (zip3D xs ys zs))) else none
  | _ => none
theorem reps_zip {K : PySem.W.Frag} {ρ : Rho} {H : Hp} {f : Nat → Nat} : ∀ {xs ys zs : List D} {us vs ws : List V} (off : Nat), Reps K ρ H us xs → Reps K ρ H vs ys → Reps K ρ H ws zs → ys.length = xs.length → zs.length = xs.length →
    (∀ (j : Nat) x y z, us[j]? = some x → vs[j]? = some y → ws[j]? = some z → H (f (off + j)) = some (.tup [x, y, z])) → Reps K ρ H ((List.range' off xs.length).map fun j => V.ref (f j)) (zip3D xs ys zs)
  | [], _, _, _, _, _, _, _, _, _, _, _, _ => by unfold zip3D; exact .nil
  | x :: xs, [], _, _, _, _, _, _, _, _, h, _, _ => by cases h
  | x :: xs, _ :: _, [], _, _, _, _, _, _, _, _, h, _ => by cases h
  | x :: xs, y :: ys, z :: zs, _, _, _, off, .cons r1 q1, .cons r2 q2, .cons r3 q3, h1, h2, hf => by
    rw [List.length_cons, List.range'_succ, List.map_cons]
    unfold zip3D
    refine .cons (.tup (.inl (.inl (hf 0 _ _ _ rfl rfl rfl))) (.cons r1 (.cons r2 (.cons r3 .nil)))) (reps_zip (off + 1) q1 q2 q3 (Nat.succ.inj h1) (Nat.succ.inj h2) fun j x y z e1 e2 e3 => ?_)
    have := hf (j + 1) x y z e1 e2 e3
    rw [show off + 1 + j = off + (j + 1) by omega]
    exact this
theorem a_zip3 {X : Cx} {cl : Nat → Addr} {a b c : Expr} {g : AA} {p p2 q pos : Pos} (hml : X.mg "list" = none) (hmz : X.mg "zip" = none) (ha : PA X [a, b, c] (cA X.K cl g)) (hc : X.calm = true := by rfl) (hgl : Gl X "list" := by rfl) (hgz : Gl X "zip" := by rfl)
    (hs : starEach [a, b, c] X.env = (false, eval a X.env) :: starEach [b, c] X.env := by rfl) (hpl : (backTo q (starEach [b, c] X.env)).any (·.1) = false := by rfl)
    (he : starEach [Expr.Call (.Name "zip" p2) [a, b, c] [] q] X.env = (false, eval (.Call (.Name "zip" p2) [a, b, c] [] q) X.env) :: starEach [] X.env := by rfl)
    (hcl : eval (.Call (.Name "list" p) [.Call (.Name "zip" p2) [a, b, c] [] q] [] pos) X.env = (do callWith pos (← eval (.Name "list" p) X.env) [] (backTo pos (starEach [.Call (.Name "zip" p2) [a, b, c] [] q] X.env)) (backToKw pos (keywordEach [] X.env))) := by rfl)
    (hcz : eval (.Call (.Name "zip" p2) [a, b, c] [] q) X.env = (do callWith q (← eval (.Name "zip" p2) X.env) [] (backTo q (starEach [a, b, c] X.env)) (backToKw q (keywordEach [] X.env))) := by rfl) :
    PE X (.Call (.Name "list" p) [.Call (.Name "zip" p2) [a, b, c] [] q] [] pos) (cE X.K cl (fZip3 g)) := PE.imp (pe_zip3 hml hmz ha hc hgl hgz hs hpl he hcl hcz) fun σ H Q h => by
  obtain ⟨ρ, ds, M, d, M', E, A, e, qq⟩ := h
  unfold fZip3 at e
  split at e
  · next xs ys zs M1 e1 =>
    split at e
    · next hl =>
      cases e
      refine goA E A e1 fun ρ1 vs H1 x1 A1 r1 => ?_
      cases r1 with
      | cons r1 ra =>
        cases ra with
        | cons r2 rb =>
          cases rb with
          | cons r3 rc =>
            cases rc
            cases r1 with
            | tup s1 q1 =>
              cases r2 with
              | tup s2 q2 =>
                cases r3 with
                | tup s3 q3 =>
                  have n1 := q1.length
                  have n2 := q2.length
                  have n3 := q3.length
                  refine ⟨_, _, _, _, _, _, rfl, s1, s2, s3, by omega, by omega, by omega, fun pp H' hp sm hlst htup => ?_⟩
                  have ex := A1.ext_new sm pp
                  refine qq (rhoNew ρ1 M1.nx pp) (.ref pp) H' (x1.trans ex) (A1.new sm hp ⟨_, hlst, ?_⟩) (.ref rhoNew_same)
                  rw [n1, List.range_eq_range']
                  exact reps_zip (f := fun j => pp + 1 + j) 0 (q1.up ex) (q2.up ex) (q3.up ex) hl.2.1 hl.2.2.1 fun j x y z e1 e2 e3 => by
                    have := htup j x y z e1 e2 e3
                    rw [Nat.zero_add]
                    exact this
    · cases e
  · cases e
end AL
/-! Dicts whose keys are ints and texts. -/
namespace AL
open PySem L2
section
variable {X : Cx} {cl : Nat → Addr} {K : PySem.W.Frag}
def keyD : D → Option Key
  | .int i => some (.inl i)
  | .str x => some (.inr x)
  | _ => none
theorem keyD_rep {ρ : Rho} {H : Hp} {v : V} {d : D} {k : Key} (r : Rep K ρ H v d) (e : keyD d = some k) : v = kV k := by
  unfold keyD at e
  split at e
  · cases r; cases e; rfl
  · cases r; cases e; rfl
  · cases e
def dctOf (M : AS) (d : D) : Option (List (Key × D)) := match d with
  | .ref n => match M.mem n with
    | some (.dct kds) => some kds
    | _ => none
  | _ => none
theorem dct_at {ρ : Rho} {H : Hp} {M : AS} {v : V} {d : D} {kds : List (Key × D)} (A : Abs K cl ρ H M) (r : Rep K ρ H v d) (e : dctOf M d = some kds) : ∃ a kvs, v = .ref a ∧ H a = some (.dK kvs) ∧ KDs K ρ H kvs kds := by
  unfold dctOf at e
  split at e
  · next n =>
    split at e
    · next hm =>
      cases e
      cases r with
      | ref hr =>
        obtain ⟨kvs, h1, h2⟩ := A.at hr hm
        exact ⟨_, kvs, rfl, h1, h2⟩
    · cases e
  · cases e
theorem new_dct {ρ : Rho} {H : Hp} {M : AS} {p : Addr} {kvs : List (Key × V)} {kds : List (Key × D)} {Q : VK} (A : Abs K cl ρ H M) (hp : H p = none) (r : KDs K ρ H kvs kds)
    (q : ∀ ρ' v H', Ext ρ H ρ' H' → Abs K cl ρ' H' (M.new (.dct kds)) → Rep K ρ' H' v (.ref M.nx) → Q v H') : Q (.ref p) (upd H p (.dK kvs)) := by
  have sm : Same H (upd H p (.dK kvs)) := same_upd hp
  have e := A.ext_new sm p
  exact q _ _ _ e (A.new sm hp ⟨kvs, upd_same, r.up e⟩) (.ref rhoNew_same)
/-- {} -/
def fDNew : AE := fun _ M => some (.ref M.nx, M.new (.dct []))
theorem a_dnew {pos : Pos} : PE X (.Dict [] [] pos) (cE X.K cl fDNew) := PE.imp pe_dnewK fun σ H Q h => by
  obtain ⟨ρ, ds, M, d, M', E, A, e, q⟩ := h
  cases e
  exact fun p hp => new_dct A hp (show KDs X.K ρ H [] [] from trivial) q
/-- d[k] = v -/
def fDPut (fo fi fv : AE) : ASt := fun ds M => match fv ds M with
  | some (d, M1) => match fo ds M1 with
    | some (.ref n, M2) => match fi ds M2 with
      | some (k, M3) => match M3.mem n, keyD k with
        | some (.dct kds), some kk => if kds.length < big then some (.nx, ds, M3.set n (.dct (putKD kds kk d))) else none
        | _, _ => none
      | none => none
    | _ => none
  | none => none
theorem s_dput {o i value : Expr} {fo fi fv : AE} {pos pos' : Pos} (hu : X.A.units + 1 < cLine) (ho : PE X o (cE X.K cl fo)) (hi : PE X i (cE X.K cl fi)) (hv : PE X value (cE X.K cl fv)) (hs : swapsWith value (some (.Subscript o i pos')) pos.line X.env = pure false := by rfl) :
    PS X (.Assign [.Subscript o i pos'] value pos) (cS X.K cl (fDPut fo fi fv)) := PS.imp (ps_dput hu ho hi hv hs) fun Dn σ H h => by
  obtain ⟨ρ, ds, M, fl, ds', M', E, A, e, q⟩ := h
  unfold fDPut at e
  split at e
  · next d M1 e1 =>
    split at e
    · next n M2 e2 =>
      split at e
      · next k M3 e3 =>
        split at e
        · next kds kk hm hk =>
          split at e
          · next hl =>
            cases e
            refine goE E A e1 fun ρ1 v1 H1 x1 A1 r1 => ?_
            refine goE (E.up x1) A1 e2 fun ρ2 v2 H2 x2 A2 r2 => ?_
            refine goE ((E.up x1).up x2) A2 e3 fun ρ3 v3 H3 x3 A3 r3 => ?_
            have r2' := r2.up x3
            cases r2' with
            | ref hr =>
              obtain ⟨kvs, h1, h2⟩ := A3.at hr hm
              have hk' := keyD_rep r3 hk
              have ex : Ext ρ3 H3 ρ3 (upd H3 _ (.dK (putK kvs kk v1))) := A3.ext_write hr hm trivial
              have A4 : Abs X.K cl ρ3 (upd H3 _ (.dK (putK kvs kk v1))) (M3.set n (.dct (putKD kds kk d))) := A3.write hr hm trivial trivial ⟨_, upd_same, (h2.put ((r1.up x2).up x3)).up ex⟩
              cases r2 with
              | ref hr2 =>
                have := x3.re _ _ hr2
                rw [hr] at this
                cases this
                exact ⟨_, _, rfl, .inl ⟨kvs, kk, h1, hk', by rw [h2.length]; exact Nat.lt_of_lt_of_le hl (by decide), rfl⟩, q ρ3 σ _ (((x1.trans x2).trans x3).trans ex) A4 (E.up (((x1.trans x2).trans x3).trans ex))⟩
          · cases e
        · cases e
      · cases e
    · cases e
  · cases e
/-- d.get(k, z) -/
def fDGet2 (fo fi fz : AE) : AE := fun ds M => match fo ds M with
  | some (o, M1) => match dctOf M1 o with
    | some _ => match fi ds M1 with
      | some (k, M2) => match fz ds M2 with
        | some (z, M3) => match dctOf M3 o, keyD k with
          | some kds, some kk => some ((valD kds kk).getD z, M3)
          | _, _ => none
        | none => none
      | none => none
    | none => none
  | none => none
theorem a_dget2 {o e f : Expr} {fo fi fz : AE} {apos cpos : Pos} (hu : X.A.units + 1 < cLine) (ho : PE X o (cE X.K cl fo)) (he : PE X e (cE X.K cl fi)) (hf : PE X f (cE X.K cl fz)) (m : M2 X o "get" apos e f cpos := by exact ⟨rfl, rfl, rfl, rfl⟩) :
    PE X (.Call (.Attribute o "get" apos) [e, f] [] cpos) (cE X.K cl (fDGet2 fo fi fz)) := PE.imp (pe_dget2 hu ho he hf m) fun σ H Q h => by
  obtain ⟨ρ, ds, M, d, M', E, A, e, q⟩ := h
  unfold fDGet2 at e
  split at e
  · next o1 M1 e1 =>
    split at e
    · next kd0 e2 =>
      split at e
      · next k M2 e3 =>
        split at e
        · next z M3 e4 =>
          split at e
          · next kds kk e5 hk =>
            cases e
            refine goE E A e1 fun ρ1 v1 H1 x1 A1 r1 => ?_
            obtain ⟨a, kv0, rfl, h1, _⟩ := dct_at A1 r1 e2
            refine ⟨a, rfl, .inl ⟨kv0, .inl h1⟩, ?_⟩
            refine goE (E.up x1) A1 e3 fun ρ2 v2 H2 x2 A2 r2 => ?_
            refine goE ((E.up x1).up x2) A2 e4 fun ρ3 v3 H3 x3 A3 r3 => ?_
            obtain ⟨a', kvs, ha, h3, h4⟩ := dct_at A3 ((r1.up x2).up x3) e5
            cases ha
            have hk' := keyD_rep (r2.up x3) hk
            rcases h4.val (k := kk) with ⟨z1, z2⟩ | ⟨v, d, z1, z2, rv⟩
            · refine ⟨none, .inl ⟨kvs, kk, .inl h3, hk', z2.symm⟩, ?_⟩
              rw [z1] at q
              exact q ρ3 _ H3 ((x1.trans x2).trans x3) A3 r3
            · refine ⟨some v, .inl ⟨kvs, kk, .inl h3, hk', z2.symm⟩, ?_⟩
              rw [z1] at q
              exact q ρ3 _ H3 ((x1.trans x2).trans x3) A3 rv
          · cases e
        · cases e
      · cases e
    · cases e
  · cases e
end
end AL
namespace AL
open L2 PySem
theorem hu1 {A : Around} {k : Nat} (hr : Room k A) : A.units + 1 < cLine := Nat.lt_of_le_of_lt (Nat.add_le_add_left (by decide : 1 ≤ 200) _) (by have := hr.un; omega)
end AL
/-! Loops over zip of two, over a dict's keys and values. -/
namespace AL
open PySem L2
section
variable {X : Cx} {cl : Nat → Addr} {K : PySem.W.Frag}
def zip2D : List D → List D → List D
  | x :: xs, y :: ys => .tup [x, y] :: zip2D xs ys
  | _, _ => []
theorem zip2D_get : ∀ {xs ys : List D} {i : Nat}, (zip2D xs ys)[i]? = match xs[i]?, ys[i]? with
      | some x, some y => some (.tup [x, y])
      | _, _ => none
  | [], ys, i => by unfold zip2D; simp
  | x :: xs, [], i => by
    unfold zip2D
    simp only [List.getElem?_nil]
    cases (x :: xs)[i]? <;> rfl
  | x :: xs, y :: ys, 0 => rfl
  | x :: xs, y :: ys, i + 1 => by
    unfold zip2D
    simp only [List.getElem?_cons_succ]
    exact zip2D_get
theorem it_zipT {a b : Addr} {vs ws : List V} {xs ys : List D} {ρ : Rho} {H : Hp} (s1 : SqT K H a vs) (r1 : Reps K ρ H vs xs) (s2 : SqT K H b ws) (r2 : Reps K ρ H ws ys) : ItOk K cl (RZ.ItzT K a b) (.fix (zip2D xs ys)) ρ H where
  stop := fun ρ1 H1 M i x A e => by
    have e : (zip2D xs ys)[i]? = none := Option.some.inj e
    rw [zip2D_get] at e
    refine ⟨vs, ws, x.sqT s1, x.sqT s2, ?_⟩
    rw [r1.length, r2.length]
    cases h1 : xs[i]? with
    | none => exact .inl (List.getElem?_eq_none_iff.mp h1)
    | some x1 =>
      cases h2 : ys[i]? with
      | none => exact .inr (List.getElem?_eq_none_iff.mp h2)
      | some y1 => rw [h1, h2] at e; cases e
  go := fun ρ1 H1 M i d x A e => by
    have e : (zip2D xs ys)[i]? = some d := Option.some.inj e
    rw [zip2D_get] at e
    split at e
    · next x1 y1 g1 g2 =>
      cases e
      obtain ⟨v, h1, h2⟩ := r1.get g1
      obtain ⟨u, h3, h4⟩ := r2.get g2
      refine ⟨⟨vs, ws, v, u, x.sqT s1, x.sqT s2, h1, h3⟩, fun y H' hy => ?_⟩
      obtain ⟨T, v', u', rfl, hT, rfl, q1, q2⟩ := hy
      have := q1 vs (x.sqT s1)
      rw [h1] at this
      cases this
      have := q2 ws (x.sqT s2)
      rw [h3] at this
      cases this
      have sm : Same H1 (upd H1 T (.tup [v, u])) := same_upd hT
      exact ⟨ρ1, Ext.same sm, A.same sm, .tup (.inl (.inl upd_same)) (.cons ((h2.up x).up (Ext.same sm)) (.cons ((h4.up x).up (Ext.same sm)) .nil))⟩
    · cases e
theorem it_zipL {a b : Addr} {n m : Nat} {ρ : Rho} {H : Hp} (hr : ρ n = some a) (hr2 : ρ m = some b) : ItOk K cl (Itz K a b) (.zip2 n m) ρ H where
  stop := fun ρ1 H1 M i x A e => by
    simp only [itAt] at e
    split at e
    · next xs ys g1 g2 =>
      obtain ⟨a', vs, ha, s, rs⟩ := lst_at A (Rep.ref (x.re _ _ hr)) g1
      obtain ⟨b', ws, hb, s', rs'⟩ := lst_at A (Rep.ref (x.re _ _ hr2)) g2
      cases ha
      cases hb
      refine ⟨vs, ws, s, s', ?_⟩
      rw [rs.length, rs'.length]
      have e := Option.some.inj e
      cases h1 : xs[i]? with
      | none => exact .inl (List.getElem?_eq_none_iff.mp h1)
      | some x1 =>
        cases h2 : ys[i]? with
        | none => exact .inr (List.getElem?_eq_none_iff.mp h2)
        | some y1 => rw [h1, h2] at e; cases e
    · cases e
  go := fun ρ1 H1 M i d x A e => by
    simp only [itAt] at e
    split at e
    · next xs ys g1 g2 =>
      obtain ⟨a', vs, ha, s, rs⟩ := lst_at A (Rep.ref (x.re _ _ hr)) g1
      obtain ⟨b', ws, hb, s', rs'⟩ := lst_at A (Rep.ref (x.re _ _ hr2)) g2
      cases ha
      cases hb
      have e := Option.some.inj e
      split at e
      · next x1 y1 k1 k2 =>
        cases e
        obtain ⟨v, h1, h2⟩ := rs.get k1
        obtain ⟨u, h3, h4⟩ := rs'.get k2
        refine ⟨⟨vs, ws, v, u, s, s', h1, h3⟩, fun y H' hy => ?_⟩
        obtain ⟨T, v', u', rfl, hT, rfl, q1, q2⟩ := hy
        have := q1 vs s
        rw [h1] at this
        cases this
        have := q2 ws s'
        rw [h3] at this
        cases this
        have sm : Same H1 (upd H1 T (.tup [v, u])) := same_upd hT
        exact ⟨ρ1, Ext.same sm, A.same sm, .tup (.inl (.inl upd_same)) (.cons (h2.up (Ext.same sm)) (.cons (h4.up (Ext.same sm)) .nil))⟩
      · cases e
    · cases e
def fZip2 (g : AA) : AI := fun ds M => match g ds M with
  | some ([.tup xs, .tup ys], M1) => some (.fix (zip2D xs ys), M1)
  | some ([.ref n, .ref m], M1) => match lstOf M1 (.ref n), lstOf M1 (.ref m) with
    | some _, some _ => some (.zip2 n m, M1)
    | _, _ => none
  | _ => none
theorem i_zip2 {a b : Expr} {g : AA} {p pos tpos : Pos} {elts : List Expr} {kk : Nat} (hm : X.mg "zip" = none) (ha : PA X [a, b] (cA X.K cl g)) (hg : Gl X "zip" := by rfl)
    (hs : starEach [a, b] X.env = (false, eval a X.env) :: starEach [b] X.env := by rfl) (hpl : (backTo pos (starEach [b] X.env)).any (·.1) = false := by rfl) :
    PI X (.Tuple elts kk tpos) (.Call (.Name "zip" p) [a, b] [] pos) (cI X.K cl (fZip2 g)) := PI.imp (RZ.pi_zipA hg hm ha hs hpl) fun σ H R h => by
  obtain ⟨ρ, ds, M, I, M', E, A, e, q⟩ := h
  unfold fZip2 at e
  split at e
  · next xs ys M1 e1 =>
    cases e
    refine goA E A e1 fun ρ1 vs H1 x1 A1 r1 => ?_
    cases r1 with
    | cons r1 ra =>
      cases ra with
      | cons r2 rb =>
        cases rb
        cases r1 with
        | tup s1 q1 =>
          cases r2 with
          | tup s2 q2 => exact ⟨_, _, _, _, rfl, .inr ⟨s1, s2, q ρ1 H1 _ x1 A1 (it_zipT s1 q1 s2 q2)⟩⟩
  · next n m M1 e1 =>
    split at e
    · next xs ys g1 g2 =>
      cases e
      refine goA E A e1 fun ρ1 vs H1 x1 A1 r1 => ?_
      cases r1 with
      | cons r1 ra =>
        cases ra with
        | cons r2 rb =>
          cases rb
          obtain ⟨a', vs', rfl, s, rs⟩ := lst_at A1 r1 g1
          obtain ⟨b', ws', rfl, s', rs'⟩ := lst_at A1 r2 g2
          cases r1 with
          | ref hr =>
            cases r2 with
            | ref hr2 => exact ⟨_, _, _, _, rfl, .inl ⟨s, s', q ρ1 H1 _ x1 A1 (it_zipL hr hr2)⟩⟩
    · cases e
  · cases e
end
end AL
/-! A loop over zip of three tuples of one length. -/
namespace AL
open PySem PySem.Spec PyProof.Rows L2
/-- a tuple's iterator, read as one that stands at its end -/
theorem drawsEnd {prog : Program} {w : World} {A : Around} (hh : A.handled = none) (it t : Addr) (hne : t ≠ it) (items : Array Value) (i : Nat) (hi : items.size ≤ i) :
    Draws prog w A it [it, t] i (fun j v => items[j]? = some v) (fun j h => h.IsTupleIter it t j ∧ h.IsTuple t items ∧ i ≤ j) where
  live := fun _ _ st => let ⟨o, ho, _⟩ := st.1; ⟨o, ho⟩
  frame := fun _ _ _ st hk => ⟨st.1.at fun o e => hk it (by simp) o e, st.2.1.at fun o e => hk t (by simp) o e, st.2.2⟩
  item := fun j s Q E hj st hQ => absurd (Nat.lt_of_lt_of_le hj st.2.2) (Nat.lt_irrefl _)
  done := fun s Q E st hE => wpAny_nextOf_tuple_end hh st.1 st.2.1 (by simp; omega) hE
def ItzT3 (K : PySem.W.Frag) (a b c : Addr) : It :=
  ⟨fun i H => ∃ (xs ys zs : List V) (x y z : V), SqT K H a xs ∧ SqT K H b ys ∧ SqT K H c zs ∧ xs[i]? = some x ∧ ys[i]? = some y ∧ zs[i]? = some z,
    fun i H v H' => ∃ T x y z, v = .ref T ∧ H T = none ∧ H' = upd H T (.tup [x, y, z]) ∧ (∀ xs, SqT K H a xs → xs[i]? = some x) ∧ (∀ ys, SqT K H b ys → ys[i]? = some y) ∧ ∀ zs, SqT K H c zs → zs[i]? = some z,
    fun i H => ∃ xs ys zs : List V, SqT K H a xs ∧ SqT K H b ys ∧ SqT K H c zs ∧ ys.length = xs.length ∧ zs.length = xs.length ∧ xs.length ≤ i⟩
theorem turn_zipT3 {P : Program} {w : World} {K : PySem.W.Frag} {elts : List Expr} {kk : Nat} {tpos : Pos} {a b c z TI TO i1 i2 i3 : Addr} (Sp : ZipSep3 z TI TO i1 i2 i3 [i1, a] [i2, b] [i3, c]) (na : a ≠ i1) (nb : b ≠ i2) (nc : c ≠ i3) :
    Turn P w K (.Tuple elts kk tpos) (ItzT3 K a b c) [z, TI, TO, i1, i2, i3] z (fun i h => IsZip h z TI TO .none ∧ IsTupOf3 h TI (.ref i1) (.ref i2) (.ref i3) ∧ (∃ x y u, IsTupOf3 h TO x y u) ∧ h.IsTupleIter i1 a i ∧ h.IsTupleIter i2 b i ∧ h.IsTupleIter i3 c i) where
  mem := by simp
  obj := fun i h st d hd => by
    obtain ⟨hz, hTI, ⟨x, y, u, hTO⟩, ⟨o1, e1, _, d1⟩, ⟨o2, e2, _, d2⟩, ⟨o3, e3, _, d3⟩⟩ := st
    have e' : d = z ∨ d = TI ∨ d = TO ∨ d = i1 ∨ d = i2 ∨ d = i3 := by simpa using hd
    rcases e' with q | q | q | q | q | q
    · rw [q]; exact ⟨_, hz, fun v q => nomatch q⟩
    · rw [q]; exact ⟨_, hTI, fun v q => nomatch q⟩
    · rw [q]; exact ⟨_, hTO, fun v q => nomatch q⟩
    · rw [q]; exact ⟨o1, e1, fun v q => by rw [d1] at q; cases q⟩
    · rw [q]; exact ⟨o2, e2, fun v q => by rw [d2] at q; cases q⟩
    · rw [q]; exact ⟨o3, e3, fun v q => by rw [d3] at q; cases q⟩
  keep := fun i h h' st k => by
    obtain ⟨hz, hTI, ⟨x, y, u, hTO⟩, h1, h2, h3⟩ := st
    exact ⟨k z (by simp) _ hz, k TI (by simp) _ hTI, ⟨x, y, u, k TO (by simp) _ hTO⟩, h1.at fun o q => k i1 (by simp) o q, h2.at fun o q => k i2 (by simp) o q, h3.at fun o q => k i3 (by simp) o q⟩
  item := by
    intro X hP hw hK hc i pins s σ H E I hf st hg
    subst hP hw hK
    obtain ⟨hz, hTI, ⟨x0, y0, u0, hTO⟩, h1, h2, h3⟩ := st
    obtain ⟨xs, ys, zs, x, y, zz, hqx, hqy, hqz, hx, hy, hzz⟩ := hg
    obtain ⟨t1, rv1, p1, _⟩ := I.tuple hqx
    obtain ⟨t2, rv2, p2, _⟩ := I.tuple hqy
    obtain ⟨t3, rv3, p3, _⟩ := I.tuple hqz
    obtain ⟨u1, w1, r1⟩ := rv1.get hx
    obtain ⟨u2, w2, r2⟩ := rv2.get hy
    obtain ⟨u3, w3, r3⟩ := rv3.get hzz
    have hzl : z < s.heap.objs.size := Heap.lt_size hz
    have hh : X.A.in1.handled = none := I.ok.hd hc
    have D1 := Draws.tuple (prog := X.prog) (w := X.w) (A := X.A.in1) hh i1 a na t1.toArray
    have D2 := Draws.tuple (prog := X.prog) (w := X.w) (A := X.A.in1) hh i2 b nb t2.toArray
    have D3 := Draws.tuple (prog := X.prog) (w := X.w) (A := X.A.in1) hh i3 c nc t3.toArray
    have z1 : i < t1.toArray.size := by have := (List.getElem?_eq_some_iff.mp w1).1; simpa using this
    have z2 : i < t2.toArray.size := by have := (List.getElem?_eq_some_iff.mp w2).1; simpa using this
    have z3 : i < t3.toArray.size := by have := (List.getElem?_eq_some_iff.mp w3).1; simpa using this
    have g1 : s.heap.IsTuple a t1.toArray := p1
    have g2 : s.heap.IsTuple b t2.toArray := p2
    have g3 : s.heap.IsTuple c t3.toArray := p3
    refine wpAny_pyNext_zipD3_item Sp D1 D2 D3 hz hTI hTO ⟨h1, g1⟩ ⟨h2, g2⟩ ⟨h3, g3⟩ z1 z2 z3 fun x1 x2 x3 h' tk y1 y2 y3 b1 b2 d1 d2 d3 b5 b6 hk => ?_
    have q1 : x1 = u1 := by
      have q : t1[i]? = some x1 := by simpa using y1
      rw [w1] at q; exact (Option.some.inj q).symm
    have q2 : x2 = u2 := by
      have q : t2[i]? = some x2 := by simpa using y2
      rw [w2] at q; exact (Option.some.inj q).symm
    have q3 : x3 = u3 := by
      have q : t3[i]? = some x3 := by simpa using y3
      rw [w3] at q; exact (Option.some.inj q).symm
    subst q1 q2 q3
    refine ⟨_, rfl, wpAny_letOwnedTupleGo_zip (s := { s with heap := h', toks := tk }) b1 fun h'' z'' sb => ?_⟩
    have hT2 : h''.get? s.heap.objs.size = some { cls := .type "tuple", data := .seq #[x1, x2, x3] } := (sb.2 _ (Nat.ne_of_gt hzl)).trans b5
    have new : ObjOk X.prog X.w (upd H s.heap.objs.size (.tup [x, y, zz])) h'' s.heap.objs.size (.tup [x, y, zz]) :=
      ⟨by show 3 ≤ sizeLine; decide, [x1, x2, x3], .cons r1 (.cons r2 (.cons r3 .nil)), ⟨_, hT2, rfl, _, rfl⟩⟩
    have I1 : Inv X pins σ (upd H s.heap.objs.size (.tup [x, y, zz])) { s with heap := h'', toks := tk } :=
      I.turnedNew (ch := [z, TI, TO, i1, i2, i3]) (fun d o hb q => (sb.2 d (fun q' => hb (by simp [q']))).trans (hk d o (fun q' => hb (by simp [q'])) (fun q' => hb (by simp [q'])) (fun q' => hb (by simp [q'])) (fun q' => hb (by simp [q'])) (fun q' => hb (by simp [q'])) q)) hf (Nat.le_refl _) new
    refine ⟨.ref s.heap.objs.size, _, I1, rfl, ⟨_, x, y, zz, rfl, I.hok.fresh (Nat.le_refl _), rfl, fun l hl => by rw [I.tuple_inj hl hqx]; exact hx, fun l hl => by rw [I.tuple_inj hl hqy]; exact hy, fun l hl => by rw [I.tuple_inj hl hqz]; exact hzz⟩, ⟨z'', ?_, ⟨x1, x2, x3, ?_⟩, ?_, ?_, ?_⟩, fun d hcm => ?_⟩
    · exact (sb.2 _ Sp.TIz).trans (hk _ _ Sp.TIz Sp.TITO Sp.TIi1 Sp.TIi2 Sp.TIi3 hTI)
    · exact (sb.2 _ Sp.TOz).trans b2
    · exact d1.1.at fun o q => (sb.2 _ Sp.zi1.symm).trans q
    · exact d2.1.at fun o q => (sb.2 _ Sp.zi2.symm).trans q
    · exact d3.1.at fun o q => (sb.2 _ Sp.zi3.symm).trans q
    · have hlt : d < s.heap.objs.size := by
        have e' : d = z ∨ d = TI ∨ d = TO ∨ d = i1 ∨ d = i2 ∨ d = i3 := by simpa using hcm
        rcases e' with q | q | q | q | q | q
        · rw [q]; exact hzl
        · rw [q]; exact Heap.lt_size hTI
        · rw [q]; exact Heap.lt_size hTO
        · rw [q]; obtain ⟨_, e1, _⟩ := h1; exact Heap.lt_size e1
        · rw [q]; obtain ⟨_, e2, _⟩ := h2; exact Heap.lt_size e2
        · rw [q]; obtain ⟨_, e3, _⟩ := h3; exact Heap.lt_size e3
      rw [upd_ne (Nat.ne_of_lt hlt)]
      exact (hf d hcm).1
  done := by
    intro X hP hw hK hc i pins s σ H E I hf st hg
    subst hP hw hK
    obtain ⟨hz, hTI, ⟨x0, y0, u0, hTO⟩, h1, h2, h3⟩ := st
    obtain ⟨xs, ys, zs, hqx, hqy, hqz, e1, e2, hend⟩ := hg
    obtain ⟨t1, rv1, p1, _⟩ := I.tuple hqx
    obtain ⟨t2, rv2, p2, _⟩ := I.tuple hqy
    obtain ⟨t3, rv3, p3, _⟩ := I.tuple hqz
    have l1 := rv1.length
    have l2 := rv2.length
    have l3 := rv3.length
    have hh : X.A.in1.handled = none := I.ok.hd hc
    have D1 := drawsEnd (prog := X.prog) (w := X.w) (A := X.A.in1) hh i1 a na t1.toArray i (by simp; omega)
    have D2 := drawsEnd (prog := X.prog) (w := X.w) (A := X.A.in1) hh i2 b nb t2.toArray i (by simp; omega)
    have D3 := drawsEnd (prog := X.prog) (w := X.w) (A := X.A.in1) hh i3 c nc t3.toArray i (by simp; omega)
    have g1 : s.heap.IsTuple a t1.toArray := p1
    have g2 : s.heap.IsTuple b t2.toArray := p2
    have g3 : s.heap.IsTuple c t3.toArray := p3
    exact wpAny_pyNext_zipD3_end Sp D1 D2 D3 hz hTI hTO ⟨h1, g1, Nat.le_refl _⟩ ⟨h2, g2, Nat.le_refl _⟩ ⟨h3, g3, Nat.le_refl _⟩ (Nat.le_refl _) (Nat.le_refl _) (Nat.le_refl _) (.inl rfl) fun h' tk hk => ⟨rfl, I.turnedL (ch := [z, TI, TO, i1, i2, i3]) (fun d o hb q =>
      hk d o (fun q' => hb (by simp [q'])) (fun q' => hb (by simp [q'])) (fun q' => hb (by simp [q'])) (fun q' => hb (by simp [q'])) (fun q' => hb (by simp [q'])) q) hf⟩
  self := fun A i s Q E st h => wpAny_pyIter_zip st.1 h
end AL
namespace AL
open PySem PySem.Spec PyProof.Rows L2
def iZip3 (K : PySem.W.Frag) (ta : TA) : TI := fun σ H R => ta σ H fun vs H1 => ∃ (a b c : Addr) (xs ys zs : List V), vs = [.ref a, .ref b, .ref c] ∧ SqT K H1 a xs ∧ SqT K H1 b ys ∧ SqT K H1 c zs ∧ R (ItzT3 K a b c) H1
theorem sep3 {B a1 a2 a3 : Nat} (b1 : a1 < B) (b2 : a2 < B) (b3 : a3 < B) : ZipSep3 (B + 5) (B + 3) (B + 4) B (B + 1) (B + 2) [B, a1] [B + 1, a2] [B + 2, a3] := by
  have nm : ∀ x y t : Nat, x ≠ y → x ≠ t → x ∉ [y, t] := fun x y t h1 h2 hm => by
    simp only [List.mem_cons, List.not_mem_nil, or_false] at hm
    exact hm.elim h1 h2
  have ne : ∀ x y : Nat, x < y → x ≠ y := fun x y h => Nat.ne_of_lt h
  have ne' : ∀ x y : Nat, y < x → x ≠ y := fun x y h => Nat.ne_of_gt h
  have e1' : ∀ k : Nat, B + k ≠ a1 := fun k => (lt_ne b1 k).symm
  have e2' : ∀ k : Nat, B + k ≠ a2 := fun k => (lt_ne b2 k).symm
  have e3' : ∀ k : Nat, B + k ≠ a3 := fun k => (lt_ne b3 k).symm
  exact ⟨ne _ _ (by omega), ne _ _ (by omega), ne _ _ (by omega), ne' _ _ (by omega), by simp, nm _ _ _ (ne' _ _ (by omega)) (e1' 5), nm _ _ _ (ne' _ _ (by omega)) (e1' 4), ne' _ _ (by omega), by simp, nm _ _ _ (ne' _ _ (by omega)) (e2' 5), nm _ _ _ (ne' _ _ (by omega)) (e2' 4), ne' _ _ (by omega), by simp, nm _ _ _ (ne' _ _ (by omega)) (e3' 5), nm _ _ _ (ne' _ _ (by omega)) (e3' 4), nm _ _ _ (ne _ _ (by omega)) (e2' 0), nm _ _ _ (ne _ _ (by omega)) (e3' 0), nm _ _ _ (ne' _ _ (by omega)) (e1' 1), nm _ _ _ (ne _ _ (by omega)) (e3' 1), nm _ _ _ (ne' _ _ (by omega)) (e1' 2), nm _ _ _ (ne' _ _ (by omega)) (e2' 2)⟩
theorem pi_zip3 {X : Cx} {a b c : Expr} {ta : TA} {p pos tpos : Pos} {elts : List Expr} {kk : Nat} (hg : Gl X "zip") (hm : X.mg "zip" = none) (ha : PA X [a, b, c] ta)
    (hs : starEach [a, b, c] X.env = (false, eval a X.env) :: starEach [b, c] X.env) (hpl : (backTo pos (starEach [b, c] X.env)).any (·.1) = false)
    (hcz : eval (.Call (.Name "zip" p) [a, b, c] [] pos) X.env = (do callWith pos (← eval (.Name "zip" p) X.env) [] (backTo pos (starEach [a, b, c] X.env)) (backToKw pos (keywordEach [] X.env)))) :
    PI X (.Tuple elts kk tpos) (.Call (.Name "zip" p) [a, b, c] [] pos) (iZip3 X.K ta) := by
  refine ⟨fun pins s σ H R I h => ?_⟩
  refine Call_ (ld_blt I hg hm PyProof.Rows.boot_zip (PyProof.Rows.callWith_type1 (thn (ha.run pos pins s σ H _ I h) fun us s1 ⟨vs, H1, I1, r1, q1⟩ => ?_) hs hpl)) hcz
  obtain ⟨a1, a2, a3, xs, ys, zs, rfl, k1, k2, k3, q⟩ := q1
  cases r1 with
  | cons r ra =>
    cases ra with
    | cons r' rb =>
      cases rb with
      | cons r'' rc =>
        cases rc
        cases r
        cases r'
        cases r''
        obtain ⟨t1, rv1, p1, z1⟩ := I1.tuple k1
        obtain ⟨t2, rv2, p2, z2⟩ := I1.tuple k2
        obtain ⟨t3, rv3, p3, z3⟩ := I1.tuple k3
        have g1 : s1.heap.IsTuple a1 t1.toArray := p1
        have g2 : s1.heap.IsTuple a2 t2.toArray := p2
        have g3 : s1.heap.IsTuple a3 t3.toArray := p3
        have b1 : (a1 : Nat) < s1.heap.objs.size := let ⟨_, q, _⟩ := p1; Heap.lt_size q
        have b2 : (a2 : Nat) < s1.heap.objs.size := let ⟨_, q, _⟩ := p2; Heap.lt_size q
        have b3 : (a3 : Nat) < s1.heap.objs.size := let ⟨_, q, _⟩ := p3; Heap.lt_size q
        refine zip_begins3 (begins_tuple a1 t1.toArray) (begins_tuple a2 t2.toArray) (begins_tuple a3 t3.toArray) g1 g2 g3 fun h' hz hTI hTO y1 y2 y3 hsz hk => wpAny_pyIter_zip hz ?_
        have I2 : Inv X pins σ H1 { s1 with heap := h' } := I1.kept (t' := s1.toks) hk
        have na : (a1 : Nat) ≠ s1.heap.objs.size := Nat.ne_of_lt b1
        have nb : (a2 : Nat) ≠ s1.heap.objs.size + 1 := lt_ne b2 1
        have nc : (a3 : Nat) ≠ s1.heap.objs.size + 2 := lt_ne b3 2
        refine ⟨s1.heap.objs.size + 5, [s1.heap.objs.size + 5, s1.heap.objs.size + 3, s1.heap.objs.size + 4, s1.heap.objs.size, s1.heap.objs.size + 1, s1.heap.objs.size + 2], _, _, H1, rfl, I2, turn_zipT3 (sep3 b1 b2 b3) na nb nc, ⟨hz, hTI, ⟨_, _, _, hTO⟩, ⟨_, y1, rfl, rfl⟩, ⟨_, y2, rfl, rfl⟩, ⟨_, y3, rfl, rfl⟩⟩, fun d hd => ?_, q⟩
        have hle : s1.heap.objs.size ≤ (d : Nat) := by
          have e' : d = s1.heap.objs.size + 5 ∨ d = s1.heap.objs.size + 3 ∨ d = s1.heap.objs.size + 4 ∨ d = s1.heap.objs.size ∨ d = s1.heap.objs.size + 1 ∨ d = s1.heap.objs.size + 2 := by simpa using hd
          rcases e' with z | z | z | z | z | z
          · rw [z]; exact Nat.le_add_right _ _
          · rw [z]; exact Nat.le_add_right _ _
          · rw [z]; exact Nat.le_add_right _ _
          · rw [z]; exact Nat.le_refl _
          · rw [z]; exact Nat.le_add_right _ _
          · rw [z]; exact Nat.le_add_right _ _
        exact I1.fpOk hle (I1.hok.fresh hle)
section
variable {X : Cx} {cl : Nat → Addr} {K : PySem.W.Frag}
theorem zip3D_get : ∀ {xs ys zs : List D} {i : Nat}, (zip3D xs ys zs)[i]? = match xs[i]?, ys[i]?, zs[i]? with
      | some x, some y, some z => some (.tup [x, y, z])
      | _, _, _ => none
  | [], ys, zs, i => by unfold zip3D; simp
  | x :: xs, [], zs, i => by
    unfold zip3D
    simp only [List.getElem?_nil]
    cases (x :: xs)[i]? <;> rfl
  | x :: xs, y :: ys, [], i => by
    unfold zip3D
    simp only [List.getElem?_nil]
    cases (x :: xs)[i]? <;> cases (y :: ys)[i]? <;> rfl
  | x :: xs, y :: ys, z :: zs, 0 => rfl
  | x :: xs, y :: ys, z :: zs, i + 1 => by
    unfold zip3D
    simp only [List.getElem?_cons_succ]
    exact zip3D_get
theorem it_zipT3 {a b c : Addr} {vs ws us : List V} {xs ys zs : List D} {ρ : Rho} {H : Hp} (s1 : SqT K H a vs) (r1 : Reps K ρ H vs xs) (s2 : SqT K H b ws) (r2 : Reps K ρ H ws ys) (s3 : SqT K H c us) (r3 : Reps K ρ H us zs) (l2 : ys.length = xs.length) (l3 : zs.length = xs.length) :
    ItOk K cl (ItzT3 K a b c) (.fix (zip3D xs ys zs)) ρ H where
  stop := fun ρ1 H1 M i x A e => by
    have e : (zip3D xs ys zs)[i]? = none := Option.some.inj e
    rw [zip3D_get] at e
    refine ⟨vs, ws, us, x.sqT s1, x.sqT s2, x.sqT s3, by rw [r1.length, r2.length]; exact l2, by rw [r1.length, r3.length]; exact l3, ?_⟩
    rw [r1.length]
    cases h1 : xs[i]? with
    | none => exact List.getElem?_eq_none_iff.mp h1
    | some x1 =>
      have hi := (List.getElem?_eq_some_iff.mp h1).1
      rw [h1, List.getElem?_eq_getElem (by omega : i < ys.length), List.getElem?_eq_getElem (by omega : i < zs.length)] at e
      cases e
  go := fun ρ1 H1 M i d x A e => by
    have e : (zip3D xs ys zs)[i]? = some d := Option.some.inj e
    rw [zip3D_get] at e
    split at e
    · next x1 y1 z1 g1 g2 g3 =>
      cases e
      obtain ⟨v, h1, h2⟩ := r1.get g1
      obtain ⟨u, h3, h4⟩ := r2.get g2
      obtain ⟨t, h5, h6⟩ := r3.get g3
      refine ⟨⟨vs, ws, us, v, u, t, x.sqT s1, x.sqT s2, x.sqT s3, h1, h3, h5⟩, fun y H' hy => ?_⟩
      obtain ⟨T, v', u', t', rfl, hT, rfl, q1, q2, q3⟩ := hy
      have := q1 vs (x.sqT s1)
      rw [h1] at this
      cases this
      have := q2 ws (x.sqT s2)
      rw [h3] at this
      cases this
      have := q3 us (x.sqT s3)
      rw [h5] at this
      cases this
      have sm : Same H1 (upd H1 T (.tup [v, u, t])) := same_upd hT
      exact ⟨ρ1, Ext.same sm, A.same sm, .tup (.inl (.inl upd_same)) (.cons ((h2.up x).up (Ext.same sm)) (.cons ((h4.up x).up (Ext.same sm)) (.cons ((h6.up x).up (Ext.same sm)) .nil)))⟩
    · cases e
def fZipI3 (g : AA) : AI := fun ds M => match g ds M with
  | some ([.tup xs, .tup ys, .tup zs], M1) => if ys.length = xs.length ∧ zs.length = xs.length then some (.fix (zip3D xs ys zs), M1) else none
  | _ => none
theorem i_zip3 {a b c : Expr} {g : AA} {p pos tpos : Pos} {elts : List Expr} {kk : Nat} (hm : X.mg "zip" = none) (ha : PA X [a, b, c] (cA X.K cl g)) (hg : Gl X "zip" := by rfl)
    (hs : starEach [a, b, c] X.env = (false, eval a X.env) :: starEach [b, c] X.env := by rfl) (hpl : (backTo pos (starEach [b, c] X.env)).any (·.1) = false := by rfl)
    (hcz : eval (.Call (.Name "zip" p) [a, b, c] [] pos) X.env = (do callWith pos (← eval (.Name "zip" p) X.env) [] (backTo pos (starEach [a, b, c] X.env)) (backToKw pos (keywordEach [] X.env))) := by rfl) :
    PI X (.Tuple elts kk tpos) (.Call (.Name "zip" p) [a, b, c] [] pos) (cI X.K cl (fZipI3 g)) := PI.imp (pi_zip3 hg hm ha hs hpl hcz) fun σ H R h => by
  obtain ⟨ρ, ds, M, I, M', E, A, e, q⟩ := h
  unfold fZipI3 at e
  split at e
  · next xs ys zs M1 e1 =>
    split at e
    · next hl =>
      cases e
      refine goA E A e1 fun ρ1 vs H1 x1 A1 r1 => ?_
      cases r1 with
      | cons r1 ra =>
        cases ra with
        | cons r2 rb =>
          cases rb with
          | cons r3 rc =>
            cases rc
            cases r1 with
            | tup s1 q1 =>
              cases r2 with
              | tup s2 q2 =>
                cases r3 with
                | tup s3 q3 => exact ⟨_, _, _, _, _, _, rfl, s1, s2, s3, q ρ1 H1 _ x1 A1 (it_zipT3 s1 q1 s2 q2 s3 q3 hl.1 hl.2)⟩
    · cases e
  · cases e
end
end AL
/-! sum of a list of ints, a dict's keys as a list, a dict's length. -/
namespace AL
open PySem L2
section
variable {X : Cx} {cl : Nat → Addr} {K : PySem.W.Frag}
def intsOf : List D → Option (List Int)
  | [] => some []
  | .int i :: ds => match intsOf ds with
    | some ns => some (i :: ns)
    | none => none
  | _ :: _ => none
theorem ints_are {ρ : Rho} {H : Hp} : ∀ {ds : List D} {vs : List V} {ns : List Int}, Reps K ρ H vs ds → intsOf ds = some ns → vs = ns.map V.int
  | [], _, _, r, e => by cases r; cases e; rfl
  | d :: ds, _, _, r, e => by
    cases r with
    | cons r1 r2 =>
      cases d <;> first | (cases e; done) | skip
      next i =>
        unfold intsOf at e
        split at e
        · next ns h =>
          cases e
          cases r1
          rw [ints_are r2 h]
          rfl
        · cases e
def oSum : OpN := fun es M => match es with
  | [d] => match lstOf M d with
    | some xs => match intsOf xs with
      | some ns => some (.int ns.sum, M)
      | none => none
    | none => none
  | _ => none
theorem caa_sum : CaA K cl (rSum K) oSum := by
  intro ρ H M vs ds z M' Q rs A e q
  unfold oSum at e
  split at e
  · next d =>
    split at e
    · next xs h =>
      split at e
      · next ns hn =>
        cases e
        cases rs with
        | cons r1 r2 =>
          cases r2
          obtain ⟨a, us, rfl, s, rr⟩ := lst_at A r1 h
          have := ints_are rr hn
          subst this
          exact ⟨a, ns, rfl, s, q ρ _ H (Ext.refl _ _) A (.int _)⟩
      · cases e
    · cases e
  · cases e
/-- list(d): the keys -/
def keyOfK : Key → D
  | .inl i => .int i
  | .inr x => .str x
theorem rep_key {ρ : Rho} {H : Hp} (k : Key) : Rep K ρ H (kV k) (keyOfK k) := by
  cases k with
  | inl i => exact .int i
  | inr x => exact .str x
theorem reps_keys {ρ : Rho} {H : Hp} : ∀ {ps : List (Key × V)} {qs : List (Key × D)}, KDs K ρ H ps qs → Reps K ρ H (ps.map fun kv => kV kv.1) (qs.map fun kd => keyOfK kd.1)
  | [], [], _ => .nil
  | (x, v) :: ps, (y, e) :: qs, ⟨a, b, c⟩ => by
    simp only at a
    subst a
    exact .cons (rep_key _) (reps_keys c)
def oListK : OpN := fun es M => match es with
  | [d] => match dctOf M d with
    | some kds => some (.ref M.nx, M.new (.lst (kds.map fun kd => keyOfK kd.1)))
    | none => none
  | _ => none
theorem caa_listK : CaA K cl rListD oListK := by
  intro ρ H M vs ds z M' Q rs A e q
  unfold oListK at e
  split at e
  · next d =>
    split at e
    · next kds h =>
      cases e
      cases rs with
      | cons r1 r2 =>
        cases r2
        obtain ⟨a, kvs, rfl, h1, h2⟩ := dct_at A r1 h
        exact ⟨a, kvs, rfl, h1, fun p hp => new_lst A hp (reps_keys h2) q⟩
    · cases e
  · cases e
theorem a_listK {p pos : Pos} {e : Expr} {f : AE} (hm : X.mg "list" = none) (ha : PE X e (cE X.K cl f)) (hc : X.calm = true := by rfl) (hg : Gl X "list" := by rfl) (hs : starEach [e] X.env = [(false, eval e X.env)] := by rfl) (hpl : (backTo pos (starEach [] X.env)).any (·.1) = false := by rfl) :
    PE X (.Call (.Name "list" p) [e] [] pos) (cE X.K cl (fCB oListK (fCons f fNil))) := a_cty (call_list_dK hc) caa_listK hm (by decide +kernel) (g_cons ha g_nil hs) hg (by decide) (by decide) hs hpl
end
end AL
/-! isinstance(x, C), x an instance of C or of another own class. -/
namespace AL
open PySem L2
section
variable {X : Cx} {cl : Nat → Addr} {K : PySem.W.Frag}
def fIsO (c : Nat) (others : List Nat) (f : AE) : AE := fun ds M => match f ds M with
  | some (.ref n, M1) => match M1.mem n with
    | some (.ins c' _) => if c' = c then some (.bl true, M1) else if c' ∈ others then some (.bl false, M1) else none
    | _ => none
  | _ => none
/-- no instance of the class c' is one of the class c -/
structure Apart (K : PySem.W.Frag) (cl : Nat → Addr) (c c' : Nat) : Prop where
  ic : C8.InsC K (cl c')
  no : PySem.W.kitOne K (.ref (cl c')) (.ref (cl c)) = some false
theorem a_isO {c : Nat} {others : List Nat} {xt : Str} {p pt pos : Pos} {e : Expr} {f : AE} (ic : C8.InsC X.K (cl c)) (ap : ∀ c' ∈ others, Apart X.K cl c c') (hmT : X.mg xt = some (.ref (cl c))) (hm : X.mg "isinstance" = none) (ha : PE X e (cE X.K cl f)) (hg : Gl X "isinstance" := by rfl) (hgT : Gl X xt := by rfl)
    (hd : (xt == ("__debug__" : Str)) = false := by decide)
    (hs : starEach [e, .Name xt pt] X.env = (false, eval e X.env) :: starEach [.Name xt pt] X.env := by rfl) (hs2 : starEach [.Name xt pt] X.env = (false, eval (.Name xt pt) X.env) :: starEach [] X.env := by rfl)
    (hpl : (backTo pos (starEach [.Name xt pt] X.env)).any (·.1) = false := by rfl) :
    PE X (.Call (.Name "isinstance" p) [e, .Name xt pt] [] pos) (cE X.K cl (fIsO c others f)) := by
  refine PE.imp (pe_callB call_isi hg hm PyProof.Rows.boot_isinstance (pa_cons ha (pa_cons (pe_glob (v := V.ref (cl c)) hgT hmT rfl hd) pa_nil hs2) hs) (by decide) (by decide) hs hpl) fun σ H Q h => ?_
  obtain ⟨ρ, ds, M, d, M', E, A, e, q⟩ := h
  unfold fIsO at e
  split at e
  · next n M1 e1 =>
    split at e
    · next c' fs hm' =>
      split at e
      · next hc =>
        cases e
        subst hc
        refine goE E A e1 fun ρ1 v1 H1 x1 A1 r1 => ?_
        cases r1 with
        | @ref a _ hr =>
          obtain ⟨dx, vf, h1, h2⟩ := A1.at hr hm'
          exact ⟨_, _, _, _, true, rfl, .own _, .base (.ins h1 ic.cl ic.ha ic.hn ic.htk ic.hm), if_pos (beq_self_eq_true _), q ρ1 _ H1 x1 A1 (.bl _)⟩
      · split at e
        · next ho =>
          cases e
          refine goE E A e1 fun ρ1 v1 H1 x1 A1 r1 => ?_
          cases r1 with
          | @ref a _ hr =>
            obtain ⟨dx, vf, h1, h2⟩ := A1.at hr hm'
            have k := ap c' ho
            exact ⟨_, _, _, _, false, rfl, .own _, .base (.ins h1 k.ic.cl k.ic.ha k.ic.hn k.ic.htk k.ic.hm), k.no, q ρ1 _ H1 x1 A1 (.bl _)⟩
        · cases e
    · cases e
  · cases e
end
end AL
/-! Dicts that are locked while they are walked; their keys, values and pairs. -/
namespace AL
open PySem L2
section
variable {X : Cx} {cl : Nat → Addr} {K : PySem.W.Frag}
/-- where a thing stands: a local name, or an attribute -/
inductive Path where
  | var (i : Nat) | fld (p : Path) (f : Str)
def pathD : Path → DS → AS → Option D
  | .var i, ds, _ => match ds[i]? with
    | some (some d) => some d
    | _ => none
  | .fld p f, ds, M => match pathD p ds M with
    | some (.ref n) => match M.mem n with
      | some (.ins _ fs) => fs.lookup f
      | _ => none
    | _ => none
theorem path_rep {ρ : Rho} {H : Hp} {σ : L2.St} {ds : DS} {M : AS} (E : Env K ρ H σ ds) (A : Abs K cl ρ H M) : ∀ (p : Path) (d : D), pathD p ds M = some d → ∃ v, Rep K ρ H v d
  | .var i, d, e => by
    unfold pathD at e
    split at e
    · next d' hd =>
      cases e
      obtain ⟨v, _, r⟩ := E.at_ i d hd
      exact ⟨v, r⟩
    · cases e
  | .fld p f, d, e => by
    unfold pathD at e
    split at e
    · next n hn =>
      split at e
      · next c fs hm =>
        obtain ⟨v, r⟩ := path_rep E A p _ hn
        cases r with
        | ref hr =>
          obtain ⟨dx, vf, h1, h2⟩ := A.at hr hm
          obtain ⟨w, _, r2⟩ := h2.look e
          exact ⟨w, r2⟩
      · cases e
    · cases e
def fLockE (p : Path) (f : AE) : AE := fun ds M => match pathD p ds M with
  | some (.ref n) => match M.mem n with
    | some (.dct kds) => match f ds (M.set n (.fdc kds)) with
      | some (d, M1) => match M1.mem n with
        | some (.fdc kds1) => some (d, M1.set n (.dct kds1))
        | _ => none
      | none => none
    | _ => none
  | _ => none
theorem a_lock {e : Expr} {f : AE} (p : Path) (h : PE X e (cE X.K cl f)) : PE X e (cE X.K cl (fLockE p f)) := PE.imp (pe_lock h) fun σ H Q h => by
  obtain ⟨ρ, ds, M, d, M', E, A, e, q⟩ := h
  unfold fLockE at e
  split at e
  · next n hp =>
    split at e
    · next kds hm =>
      split at e
      · next d1 M1 e1 =>
        split at e
        · next kds1 hm1 =>
          cases e
          obtain ⟨v, r⟩ := path_rep E A p _ hp
          cases r with
          | @ref a _ hr =>
          obtain ⟨kvs, ha, rk⟩ := A.at hr hm
          refine ⟨a, .dK kvs, ha, trivial, fun od => ?_⟩
          obtain ⟨x0, A0⟩ := A.lock hr hm ha rk od
          refine goE (E.up x0) A0 e1 fun ρ1 v1 H1 x1 A1 r1 => ?_
          have hH := x1.fz a od _ upd_same
          obtain ⟨xw, A2⟩ := A1.unlock (x1.re _ _ hr) hm1 hH
          exact ⟨hH, q ρ1 v1 _ (Ext.lockback ha x1) A2 (r1.upW xw)⟩
        · cases e
      · cases e
    · cases e
  · cases e
def fLockS (p : Path) (f : ASt) : ASt := fun ds M => match pathD p ds M with
  | some (.ref n) => match M.mem n with
    | some (.dct kds) => match f ds (M.set n (.fdc kds)) with
      | some (fl, ds1, M1) => match M1.mem n with
        | some (.fdc kds1) => some (fl, ds1, M1.set n (.dct kds1))
        | _ => none
      | none => none
    | _ => none
  | _ => none
theorem s_lock {st : Stmt} {f : ASt} (p : Path) (h : PS X st (cS X.K cl f)) : PS X st (cS X.K cl (fLockS p f)) := PS.imp (ps_lock h) fun Dn σ H h => by
  obtain ⟨ρ, ds, M, fl, ds', M', E, A, e, q⟩ := h
  unfold fLockS at e
  split at e
  · next n hp =>
    split at e
    · next kds hm =>
      split at e
      · next fl1 ds1 M1 e1 =>
        split at e
        · next kds1 hm1 =>
          cases e
          obtain ⟨v, r⟩ := path_rep E A p _ hp
          cases r with
          | @ref a _ hr =>
          obtain ⟨kvs, ha, rk⟩ := A.at hr hm
          refine ⟨a, .dK kvs, ha, trivial, fun od => ?_⟩
          obtain ⟨x0, A0⟩ := A.lock hr hm ha rk od
          refine ⟨ρ, ds, _, fl, ds', M1, E.up x0, A0, e1, fun ρ1 σ1 H1 x1 A1 E1 => ?_⟩
          have hH := x1.fz a od _ upd_same
          obtain ⟨xw, A2⟩ := A1.unlock (x1.re _ _ hr) hm1 hH
          have k := q ρ1 σ1 _ (Ext.lockback ha x1) A2 (E1.upW xw)
          cases fl with
          | nx => exact ⟨hH, k⟩
          | bk => exact ⟨hH, k⟩
          | ct => exact ⟨hH, k⟩
          | rt d => exact fun v r => ⟨hH, k v (r.upW xw)⟩
        · cases e
      · cases e
    · cases e
  · cases e
theorem KDs.get {ρ : Rho} {H : Hp} : ∀ {ps : List (Key × V)} {qs : List (Key × D)} {i : Nat} {k : Key} {d : D}, KDs K ρ H ps qs → qs[i]? = some (k, d) → ∃ v, ps[i]? = some (k, v) ∧ Rep K ρ H v d
  | [], [], _, _, _, _, e => by simp at e
  | p :: ps, q :: qs, i, k, d, ⟨a, b, c⟩, e => by
    cases i with
    | zero =>
      obtain rfl : q = (k, d) := by simpa using e
      obtain ⟨x, v⟩ := p
      simp only at a b
      subst a
      exact ⟨v, rfl, b⟩
    | succ i =>
      obtain ⟨v, h1, h2⟩ := KDs.get (i := i) c (by simpa using e)
      exact ⟨v, by simpa using h1, h2⟩
def valsD (kds : List (Key × D)) : List D := kds.map (·.2)
def keysD (kds : List (Key × D)) : List D := kds.map fun kd => keyOfK kd.1
def itemsD (kds : List (Key × D)) : List D := kds.map fun kd => .tup [keyOfK kd.1, kd.2]
theorem map_get {α β : Type} {f : α → β} {xs : List α} {i : Nat} {y : β} (e : (xs.map f)[i]? = some y) : ∃ x, xs[i]? = some x ∧ y = f x := by
  rw [List.getElem?_map] at e
  cases h : xs[i]? with
  | none => rw [h] at e; cases e
  | some x => rw [h] at e; exact ⟨x, rfl, (Option.some.inj e).symm⟩
theorem map_none {α β : Type} {f : α → β} {xs : List α} {i : Nat} (e : (xs.map f)[i]? = none) : xs.length ≤ i := by
  have := List.getElem?_eq_none_iff.mp e
  rw [List.length_map] at this
  exact this
section
variable {d : Addr} {o : Obj} {kvs : List (Key × V)} {kds : List (Key × D)} {ρ : Rho} {H : Hp}
theorem lt_of_get {i : Nat} {kd : Key × V} (h : kvs[i]? = some kd) : i < kvs.length := by
  rcases Nat.lt_or_ge i kvs.length with q | q
  · exact q
  · rw [List.getElem?_eq_none q] at h; cases h
theorem it_vals (hd : H d = some (.frz o (.dK kvs))) (rk : KDs K ρ H kvs kds) : ItOk K cl (Itd d o kvs) (.fix (valsD kds)) ρ H where
  stop := fun ρ1 H1 M i x A e => ⟨x.fz _ _ _ hd, by rw [rk.length]; exact map_none (Option.some.inj e)⟩
  go := fun ρ1 H1 M i z x A e => by
    obtain ⟨⟨k, w⟩, h1, rfl⟩ := map_get (Option.some.inj e)
    obtain ⟨v, h2, r⟩ := rk.get h1
    refine ⟨⟨x.fz _ _ _ hd, lt_of_get h2⟩, fun y H' hy => ?_⟩
    obtain ⟨rfl, k', h3⟩ := hy
    rw [h2] at h3
    cases h3
    exact ⟨ρ1, Ext.refl _ _, A, r.up x⟩
theorem it_keys (hd : H d = some (.frz o (.dK kvs))) (rk : KDs K ρ H kvs kds) : ItOk K cl (Itk d o kvs) (.fix (keysD kds)) ρ H where
  stop := fun ρ1 H1 M i x A e => ⟨x.fz _ _ _ hd, by rw [rk.length]; exact map_none (Option.some.inj e)⟩
  go := fun ρ1 H1 M i z x A e => by
    obtain ⟨⟨k, w⟩, h1, rfl⟩ := map_get (Option.some.inj e)
    obtain ⟨v, h2, r⟩ := rk.get h1
    refine ⟨⟨x.fz _ _ _ hd, lt_of_get h2⟩, fun y H' hy => ?_⟩
    obtain ⟨rfl, k', v', h3, rfl⟩ := hy
    rw [h2] at h3
    cases h3
    exact ⟨ρ1, Ext.refl _ _, A, rep_key k⟩
theorem it_items (hd : H d = some (.frz o (.dK kvs))) (rk : KDs K ρ H kvs kds) : ItOk K cl (Iti d o kvs) (.fix (itemsD kds)) ρ H where
  stop := fun ρ1 H1 M i x A e => ⟨x.fz _ _ _ hd, by rw [rk.length]; exact map_none (Option.some.inj e)⟩
  go := fun ρ1 H1 M i z x A e => by
    obtain ⟨⟨k, w⟩, h1, rfl⟩ := map_get (Option.some.inj e)
    obtain ⟨v, h2, r⟩ := rk.get h1
    refine ⟨⟨x.fz _ _ _ hd, lt_of_get h2⟩, fun y H' hy => ?_⟩
    obtain ⟨T, k', v', h3, rfl, hT, rfl⟩ := hy
    rw [h2] at h3
    cases h3
    have sm : Same H1 (upd H1 T (.tup [kV k, v])) := same_upd hT
    exact ⟨ρ1, Ext.same sm, A.same sm, .tup (.inl (.inl upd_same)) (.cons (rep_key k) (.cons ((r.up x).up (Ext.same sm)) .nil))⟩
end
def fdcOf (M : AS) (d : D) : Option (List (Key × D)) := match d with
  | .ref n => match M.mem n with
    | some (.fdc kds) => some kds
    | _ => none
  | _ => none
theorem fdc_at {ρ : Rho} {H : Hp} {M : AS} {v : V} {d : D} {kds : List (Key × D)} (A : Abs K cl ρ H M) (r : Rep K ρ H v d) (e : fdcOf M d = some kds) : ∃ a o kvs, v = .ref a ∧ H a = some (.frz o (.dK kvs)) ∧ KDs K ρ H kvs kds := by
  unfold fdcOf at e
  split at e
  · next n =>
    split at e
    · next hm =>
      cases e
      cases r with
      | ref hr =>
        obtain ⟨o, kvs, h1, h2⟩ := A.at hr hm
        exact ⟨_, o, kvs, rfl, h1, h2⟩
    · cases e
  · cases e
def fDict (g : List (Key × D) → List D) (fo : AE) : AI := fun ds M => match fo ds M with
  | some (d, M1) => match fdcOf M1 d with
    | some kds => some (.fix (g kds), M1)
    | none => none
  | none => none
theorem i_vals {tg e : Expr} {fo : AE} {apos cpos : Pos} (he : PE X e (cE X.K cl fo)) (hbase : attributeBase e "values" X.env (eval e X.env) = eval e X.env := by rfl) (hline : (apos.endLine == cpos.line) = true := by rfl) : PI X tg (.Call (.Attribute e "values" apos) [] [] cpos) (cI X.K cl (fDict valsD fo)) :=
  PI.imp (pi_values he hbase hline) fun σ H R h => by
    obtain ⟨ρ, ds, M, I, M', E, A, e, q⟩ := h
    unfold fDict at e
    split at e
    · next d M1 e1 =>
      split at e
      · next kds hk =>
        cases e
        refine goE E A e1 fun ρ1 v1 H1 x1 A1 r1 => ?_
        obtain ⟨a, o, kvs, rfl, h1, h2⟩ := fdc_at A1 r1 hk
        exact ⟨a, o, kvs, rfl, h1, q ρ1 H1 _ x1 A1 (it_vals h1 h2)⟩
      · cases e
    · cases e
theorem i_items {elts : List Expr} {kk : Nat} {tpos : Pos} {e : Expr} {fo : AE} {apos cpos : Pos} (he : PE X e (cE X.K cl fo)) (hbase : attributeBase e "items" X.env (eval e X.env) = eval e X.env := by rfl) (hline : (apos.endLine == cpos.line) = true := by rfl) : PI X (.Tuple elts kk tpos) (.Call (.Attribute e "items" apos) [] [] cpos) (cI X.K cl (fDict itemsD fo)) :=
  PI.imp (pi_items he hbase hline) fun σ H R h => by
    obtain ⟨ρ, ds, M, I, M', E, A, e, q⟩ := h
    unfold fDict at e
    split at e
    · next d M1 e1 =>
      split at e
      · next kds hk =>
        cases e
        refine goE E A e1 fun ρ1 v1 H1 x1 A1 r1 => ?_
        obtain ⟨a, o, kvs, rfl, h1, h2⟩ := fdc_at A1 r1 hk
        exact ⟨a, o, kvs, rfl, h1, q ρ1 H1 _ x1 A1 (it_items h1 h2)⟩
      · cases e
    · cases e
theorem i_keysM {tg e : Expr} {fo : AE} {apos cpos : Pos} (he : PE X e (cE X.K cl fo)) (hbase : attributeBase e "keys" X.env (eval e X.env) = eval e X.env := by rfl) (hline : (apos.endLine == cpos.line) = true := by rfl) : PI X tg (.Call (.Attribute e "keys" apos) [] [] cpos) (cI X.K cl (fDict keysD fo)) :=
  PI.imp (pi_keysM he hbase hline) fun σ H R h => by
    obtain ⟨ρ, ds, M, I, M', E, A, e, q⟩ := h
    unfold fDict at e
    split at e
    · next d M1 e1 =>
      split at e
      · next kds hk =>
        cases e
        refine goE E A e1 fun ρ1 v1 H1 x1 A1 r1 => ?_
        obtain ⟨a, o, kvs, rfl, h1, h2⟩ := fdc_at A1 r1 hk
        exact ⟨a, o, kvs, rfl, h1, q ρ1 H1 _ x1 A1 (it_keys h1 h2)⟩
      · cases e
    · cases e
theorem i_keys {tg e : Expr} {fo : AE} (he : PE X e (cE X.K cl fo)) : PI X tg e (cI X.K cl (fDict keysD fo)) :=
  PI.imp (pi_keys he) fun σ H R h => by
    obtain ⟨ρ, ds, M, I, M', E, A, e, q⟩ := h
    unfold fDict at e
    split at e
    · next d M1 e1 =>
      split at e
      · next kds hk =>
        cases e
        refine goE E A e1 fun ρ1 v1 H1 x1 A1 r1 => ?_
        obtain ⟨a, o, kvs, rfl, h1, h2⟩ := fdc_at A1 r1 hk
        exact ⟨a, o, rfl, .inl ⟨kvs, h1, q ρ1 H1 _ x1 A1 (it_keys h1 h2)⟩⟩
      · cases e
    · cases e
end
end AL
/-! Tuples known to have no dict; dict(pairs) of such a one; != of two dicts; is True; a class without __init__; methods of two classes. -/
namespace AL
open PySem PySem.Spec PyProof.Rows L2
section
variable {X : Cx} {cl : Nat → Addr} {K : PySem.W.Frag}
/-! ### (a, b) -/
def tTupC (t : TA) : TE := fun σ H Q => t σ H fun xs H1 => xs.length ≤ sizeLine ∧ ∀ p o, H1 p = none → o.dict = none → Q (.ref p) (upd H1 p (.frz o (.tup xs)))
theorem pe_tupC {es : List Expr} {x1} {t : TA} {pos : Pos} (h : PA X es t) : PE X (.Tuple es x1 pos) (tTupC t) := by
  refine ⟨fun pins s σ H Q I hq => ?_⟩
  refine wpAny_Tuple_spliced (thn (h.run pos pins s σ H _ I hq) fun us s1 ⟨xs, H1, I1, r, z, q⟩ => ⟨by rw [← r.length]; exact z, ?_⟩)
  have hf : H1 s1.heap.objs.size = none := I1.hok.fresh (Nat.le_refl _)
  refine ⟨.ref s1.heap.objs.size, upd H1 s1.heap.objs.size (.frz { cls := .type "tuple", data := .seq us.toArray } (.tup xs)), I1.laid (t' := s1.toks) (fun b u e => Heap.get?_push_of_some _ e) (Nat.le_refl _) ?_, rfl, q _ _ hf rfl⟩
  exact ⟨Heap.get?_push_size _ rfl, z, us, r, ⟨_, Heap.get?_push_size _ rfl, rfl, _, rfl⟩⟩
theorem new_tpc {ρ : Rho} {H : Hp} {M : AS} {p : Addr} {o : Obj} {vs : List V} {es : List D} {Q : VK} (A : Abs K cl ρ H M) (hp : H p = none) (ho : o.dict = none) (r : Reps K ρ H vs es)
    (q : ∀ ρ' v H', Ext ρ H ρ' H' → Abs K cl ρ' H' M → Rep K ρ' H' v (.tpc es) → Q v H') : Q (.ref p) (upd H p (.frz o (.tup vs))) := by
  have sm : Same H (upd H p (.frz o (.tup vs))) := same_upd hp
  exact q ρ _ _ (Ext.same sm) (A.same sm) (.tpc upd_same ho (r.up (Ext.same sm)))
def fTupC (f : AA) : AE := fun ds M => match f ds M with
  | some (es, M1) => if es.length ≤ big then some (.tpc es, M1) else none
  | none => none
theorem a_tupC {es : List Expr} {x1} {f : AA} {pos : Pos} (h : PA X es (cA X.K cl f)) : PE X (.Tuple es x1 pos) (cE X.K cl (fTupC f)) := PE.imp (pe_tupC h) fun σ H Q h => by
  obtain ⟨ρ, ds, M, d, M', E, A, e, q⟩ := h
  unfold fTupC at e
  split at e
  · next es' M1 e1 =>
    split at e
    · next hz =>
      cases e
      exact goA E A e1 fun ρ1 vs H1 x1 A1 r1 => ⟨by rw [r1.length]; exact big_line hz, fun p o hp ho => new_tpc A1 hp ho r1 fun ρ2 v H2 x2 A2 r2 => q ρ2 v H2 (x1.trans x2) A2 r2⟩
    · cases e
  · cases e
/-! ### tuple(xs) of a list -/
theorem call_tupleC : CallR X (.type "tuple") (fun xs H Q => ∃ p ys, xs = [.ref p] ∧ SqL X.K H p ys ∧ ∀ l o, H l = none → o.dict = none → Q (.ref l) (upd H l (.frz o (.tup ys)))) := by
  intro pins s σ H xs us Q I r h
  obtain ⟨p, ys, rfl, hq, q⟩ := h
  obtain ⟨u, rfl, rx⟩ := vals1 r
  cases rx
  obtain ⟨its, r', pl, hz⟩ := I.list hq
  have hlen := r'.length
  refine call_tuple_list pl.isList (fun h' kp => ?_) (by simp only [List.size_toArray] <;> omega)
  have I1 : Inv X pins σ H { s with heap := h' } := I.kept (t' := s.toks) kp
  have I2 : Inv X pins σ (upd H h'.objs.size (.frz { cls := .type "tuple", data := .seq its.toArray } (.tup ys))) { s with heap := h'.push { cls := .type "tuple", data := .seq its.toArray } } :=
    I1.laid (t' := s.toks) (fun b o e => Heap.get?_push_of_some _ e) (Nat.le_refl _) ⟨Heap.get?_push_size _ rfl, hz, its, r', IsTup.new _ _⟩
  exact ⟨.ref h'.objs.size, _, I2, rfl, q _ _ (I1.hok.fresh (Nat.le_refl _)) rfl⟩
def oTupleC : OpN := fun es M => match es with
  | [d] => match lstOf M d with
    | some xs => some (.tpc xs, M)
    | none => none
  | _ => none
theorem caa_tupleC : CaA K cl (fun xs H Q => ∃ p ys, xs = [.ref p] ∧ SqL K H p ys ∧ ∀ l o, H l = none → o.dict = none → Q (.ref l) (upd H l (.frz o (.tup ys)))) oTupleC := by
  intro ρ H M vs ds z M' Q rs A e q
  unfold oTupleC at e
  split at e
  · next d =>
    split at e
    · next xs h =>
      cases e
      cases rs with
      | cons r1 r2 =>
        cases r2
        obtain ⟨a, us, rfl, s, rr⟩ := lst_at A r1 h
        exact ⟨a, us, rfl, s, fun l o hl ho => new_tpc A hl ho rr q⟩
    · cases e
  · cases e
theorem a_tupleC {p pos : Pos} {e : Expr} {f : AE} (hm : X.mg "tuple" = none) (ha : PE X e (cE X.K cl f)) (hg : Gl X "tuple" := by rfl) (hs : starEach [e] X.env = [(false, eval e X.env)] := by rfl) (hpl : (backTo pos (starEach [] X.env)).any (·.1) = false := by rfl) :
    PE X (.Call (.Name "tuple" p) [e] [] pos) (cE X.K cl (fCB oTupleC (fCons f fNil))) := a_cty call_tupleC caa_tupleC hm (by decide +kernel) (g_cons ha g_nil hs) hg (by decide) (by decide) hs hpl
/-! ### dict(pairs) -/
theorem call_dictPT (hcalm : X.calm = true) : CallR X (.type "dict") (fun xs H Q => ∃ (a : Addr) (o : Obj) (ps : List Addr) (kvs : List (Key × V)), xs = [.ref a] ∧ H a = some (.frz o (.tup (ps.map V.ref))) ∧ o.dict = none ∧ Paired (fun p kv => SqT X.K H p [kV kv.1, kv.2]) ps kvs ∧
    ∀ p, H p = none → Q (.ref p) (upd H p (.dK (mergeK [] kvs)))) := by
  intro pins s σ H xs us Q I r q
  obtain ⟨a, o, ps, kvs, ex, ha, hd, hp, q⟩ := q
  subst ex
  obtain ⟨u, eu, rx⟩ := vals1 r
  subst eu
  cases rx
  obtain ⟨hg, hz, its, rv, ⟨o', ho', hc, n, hdat⟩⟩ := (show ObjOk X.prog X.w H s.heap a (.frz o (.tup (ps.map V.ref))) from I.hok a _ ha)
  rw [hg] at ho'
  cases ho'
  have ei := refs_at rv
  subst ei
  rw [List.length_map] at hz
  obtain ⟨prs, rel, hl, hpr⟩ := pairs_of I hp
  -- the pairs by values
  obtain ⟨kvV, hkv⟩ : ∃ kv : List (Value × Value), kv.length = prs.length ∧ ∀ j k v, kv[j]? = some (k, v) → ∃ q : Key × Value, prs[j]? = some q ∧ v = q.2 ∧ keyIs q.1 k = true ∧ ∃ b, ps[j]? = some b ∧ IsTup s.heap b #[k, v] := by
    have hsel : ∀ j : Fin prs.length, ∃ kv : Value × Value, kv.2 = (prs[j.1]).2 ∧ keyIs (prs[j.1]).1 kv.1 = true ∧ ∃ b, ps[j.1]? = some b ∧ IsTup s.heap b #[kv.1, kv.2] := fun j => by
      obtain ⟨b, u, e1, e2, e3⟩ := hpr j.1 prs[j.1] (List.getElem?_eq_getElem j.2)
      exact ⟨(u, (prs[j.1]).2), rfl, e3, b, e1, e2⟩
    refine ⟨List.ofFn fun j => Classical.choose (hsel j), List.length_ofFn, fun j k v e => ?_⟩
    have hj : j < prs.length := by
      have := (List.getElem?_eq_some_iff.mp e).1
      rwa [List.length_ofFn] at this
    rw [List.getElem?_ofFn, dif_pos hj] at e
    have e := Option.some.inj e
    obtain ⟨c1, c2, b, c3, c4⟩ := Classical.choose_spec (hsel ⟨j, hj⟩)
    rw [e] at c1 c2 c4
    exact ⟨prs[j], List.getElem?_eq_getElem hj, c1, c2, b, c3, c4⟩
  obtain ⟨hkl, hkv⟩ := hkv
  have P := PairArg.tuple (prog := X.prog) (w := X.w) a (ps.map Value.ref).toArray (fun j => ps.getD j 0) kvV
  refine PySem.call_dict_pairs (knd := mixKind X.prog X.w) (kvs := prs) P (I.ok.hd hcalm) ⟨⟨o, n, hg, hc, hd, hdat⟩, ?_, fun j k v e => ?_⟩ ⟨hkl.symm, fun i key v e => ?_⟩ (by rw [hkl, hl]; exact hz) fun h' tk hd' k => ?_
  · simp [hkl, hl]
  · obtain ⟨q', e1, e2, e3, b, e4, e5⟩ := hkv j k v e
    exact ⟨by simp [e4], .inl (by
      show s.heap.IsTuple (ps.getD j 0) #[k, v]
      rw [show ps.getD j 0 = b by simp [e4]]
      exact e5)⟩
  · obtain ⟨q', e1, e2, e3, b, e4, e5⟩ := hkv i key v e
    obtain ⟨x, y⟩ := q'
    simp only at e2
    subst e2
    exact ⟨x, e1, e3⟩
  · have hm : (s.heap.objs.size == sysModules) = false := beq_eq_false_iff_ne.mpr (Nat.ne_of_gt I.big)
    have hlen : (mergeK [] kvs).length ≤ sizeLine := by
      refine Nat.le_trans (length_mergeK kvs []) ?_
      rw [List.length_nil, Nat.zero_add, rel.length, hl]
      exact hz
    exact ⟨.ref s.heap.objs.size, upd H s.heap.objs.size (.dK (mergeK [] kvs)), I.laid (t' := tk) (fun b o e => k b o (by simp) e) (Nat.le_refl _) (show ObjOk X.prog X.w _ _ _ (.dK (mergeK [] kvs)) from ⟨hlen, hm, merged [] prs, KV.merge rel .nil, hd'⟩), rfl, q _ (I.hok.fresh (Nat.le_refl _))⟩
def prsOf : List D → Option (List (Key × D))
  | [] => some []
  | .tup [k, v] :: ds => match keyD k, prsOf ds with
    | some kk, some r => some ((kk, v) :: r)
    | _, _ => none
  | _ :: _ => none
def mergeD (acc : List (Key × D)) (more : List (Key × D)) : List (Key × D) := more.foldl (fun a kd => putKD a kd.1 kd.2) acc
theorem KDs.merge {ρ : Rho} {H : Hp} : ∀ (more : List (Key × V)) (qs : List (Key × D)) (ps : List (Key × V)) (rs : List (Key × D)), KDs K ρ H more qs → KDs K ρ H ps rs → KDs K ρ H (mergeK ps more) (mergeD rs qs)
  | [], [], _, _, _, h => h
  | (x, v) :: more, (y, d) :: qs, ps, rs, ⟨a, b, c⟩, h => by
    have a : x = y := a
    subst a
    exact KDs.merge more qs (putK ps x v) (putKD rs x d) c (KDs.put b h)
theorem prs_rep {ρ : Rho} {H : Hp} : ∀ {ds : List D} {vs : List V} {kds : List (Key × D)}, Reps K ρ H vs ds → prsOf ds = some kds → ∃ (ps : List Addr) (kvs : List (Key × V)), vs = ps.map V.ref ∧ Paired (fun p kv => SqT K H p [kV kv.1, kv.2]) ps kvs ∧ KDs K ρ H kvs kds
  | [], _, _, r, e => by cases r; cases e; exact ⟨[], [], rfl, .nil, trivial⟩
  | d :: ds, _, _, r, e => by
    unfold prsOf at e
    split at e
    · next e0 => cases e0
    · next k v ds' e0 =>
      cases e0
      split at e
      · next kk rr hk hr =>
        cases e
        cases r with
        | cons r1 r2 =>
          obtain ⟨ps, kvs, rfl, hp, hkd⟩ := prs_rep r2 hr
          cases r1 with
          | @tup a ws _ s rs =>
            obtain ⟨v1, v2, rfl, q1, q2⟩ := reps2 rs
            have := keyD_rep q1 hk
            subst this
            exact ⟨a :: ps, (kk, v2) :: kvs, rfl, .cons s hp, rfl, q2, hkd⟩
      · cases e
    · cases e
def oDictP : OpN := fun es M => match es with
  | [.tpc ds] => match prsOf ds with
    | some kds => some (.ref M.nx, M.new (.dct (mergeD [] kds)))
    | none => none
  | _ => none
theorem caa_dictP : CaA K cl (fun xs H Q => ∃ (a : Addr) (o : Obj) (ps : List Addr) (kvs : List (Key × V)), xs = [.ref a] ∧ H a = some (.frz o (.tup (ps.map V.ref))) ∧ o.dict = none ∧ Paired (fun p kv => SqT K H p [kV kv.1, kv.2]) ps kvs ∧
    ∀ p, H p = none → Q (.ref p) (upd H p (.dK (mergeK [] kvs)))) oDictP := by
  intro ρ H M vs ds z M' Q rs A e q
  unfold oDictP at e
  split at e
  · next ds =>
    split at e
    · next kds h =>
      cases e
      cases rs with
      | cons r1 r2 =>
        cases r2
        cases r1 with
        | @tpc a us _ o s ho rr =>
          obtain ⟨ps, kvs, rfl, hp, hk⟩ := prs_rep rr h
          exact ⟨a, o, ps, kvs, rfl, s, ho, hp, fun p hp' => new_dct A hp' (KDs.merge _ _ _ _ hk (show KDs K ρ H [] [] from trivial)) q⟩
    · cases e
  · cases e
theorem a_dictP {p pos : Pos} {e : Expr} {f : AE} (hm : X.mg "dict" = none) (ha : PE X e (cE X.K cl f)) (hc : X.calm = true := by rfl) (hg : Gl X "dict" := by rfl) (hs : starEach [e] X.env = [(false, eval e X.env)] := by rfl) (hpl : (backTo pos (starEach [] X.env)).any (·.1) = false := by rfl) :
    PE X (.Call (.Name "dict" p) [e] [] pos) (cE X.K cl (fCB oDictP (fCons f fNil))) := a_cty (call_dictPT hc) caa_dictP hm (by decide +kernel) (g_cons ha g_nil hs) hg (by decide) (by decide) hs hpl
/-! ### one reading or another -/
def fOrElse (f g : AE) : AE := fun ds M => match f ds M with
  | some r => some r
  | none => g ds M
theorem a_orElse {e : Expr} {f g : AE} (h1 : PE X e (cE X.K cl f)) (h2 : PE X e (cE X.K cl g)) : PE X e (cE X.K cl (fOrElse f g)) := ⟨fun pins s σ H Q I h => by
  obtain ⟨ρ, ds, M, d, M', E, A, e, q⟩ := h
  unfold fOrElse at e
  split at e
  · next r hr =>
    cases e
    exact h1.run pins s σ H Q I ⟨ρ, ds, M, d, M', E, A, hr, q⟩
  · exact h2.run pins s σ H Q I ⟨ρ, ds, M, d, M', E, A, e, q⟩⟩
def fNeverE : AE := fun _ _ => none
theorem a_never {e : Expr} : PE X e (cE X.K cl fNeverE) := ⟨fun pins s σ H Q I h => by
  obtain ⟨ρ, ds, M, d, M', E, A, e, q⟩ := h
  cases e⟩
/-! ### is True -/
def oIsB (neg : Bool) : Op2 := fun x y M => match x, y with
  | .bl a, .bl b => some (.bl (if neg then !decide (a = b) else decide (a = b)), M)
  | _, _ => none
theorem opa_isB : OpA K cl rIsB (oIsB false) := by
  intro ρ H M x y dx dy z M' Q rx ry A e q
  unfold oIsB at e
  split at e
  · next a b =>
    cases e
    cases rx; cases ry
    exact ⟨a, b, rfl, rfl, q ρ _ H (Ext.refl _ _) A (.bl _)⟩
  · cases e
theorem opa_notB : OpA K cl rNotB (oIsB true) := by
  intro ρ H M x y dx dy z M' Q rx ry A e q
  unfold oIsB at e
  split at e
  · next a b =>
    cases e
    cases rx; cases ry
    exact ⟨a, b, rfl, rfl, q ρ _ H (Ext.refl _ _) A (.bl _)⟩
  · cases e
/-! ### == and != of dicts whose values are data -/
inductive Hits (K : PySem.W.Frag) (H : Hp) (ls : List (Key × V)) : List (Key × V) → Bool → Prop
  | nil : Hits K H ls [] true
  | miss {k : Key} {v : V} {r : List (Key × V)} : valV ls k = none → Hits K H ls ((k, v) :: r) false
  | hit {k : Key} {v u : V} {d e : PyData} {r : List (Key × V)} {b : Bool} : valV ls k = some u → Dp K H v d → Dp K H u e → SeqAt.shaped d = true → SeqAt.shaped e = true → Hits K H ls r b → Hits K H ls ((k, v) :: r) (PyData.eqv d e && b)
theorem hits_go {pins : List (Addr × Obj)} {σ : L2.St} {H : Hp} {s : Shared} {A : Around} (I : Inv X pins σ H s) (hu : A.in1.units + 64 < cLine) {ls : List (Key × V)} {vb : List (Key × Value)} (rb : KV ls vb) {ks : List (Key × V)} {va : List (Key × Value)} (ra : KV ks va) :
    ∀ {b : Bool}, Hits X.K H ls ks b → PySem.W.KeqHits A.in1 s vb va b := by
  unfold KV at ra
  induction ra with
  | nil => intro b h; cases h; exact .nil
  | @cons p q ps qs h t k =>
    intro b hp
    obtain ⟨h1, h2⟩ := h
    obtain ⟨key, v⟩ := q
    obtain ⟨key', v'⟩ := p
    have h1 : key' = key := h1
    subst h1
    have rr : RelO (valV ls key') (valueAt vb key') := rb.val key'
    cases hp with
    | miss hn =>
      rw [hn] at rr
      refine .miss ?_
      cases hv : valueAt vb key' with
      | none => rfl
      | some z => rw [hv] at rr; exact rr.elim
    | hit hn d1 d2 s1 s2 hr =>
      rw [hn] at rr
      obtain ⟨y, hy, ry⟩ := rr.some_of
      obtain ⟨as, r1⟩ := Dp.reads I _ _ _ d1 h2
      obtain ⟨bs, r2⟩ := Dp.reads I _ _ _ d2 ry
      exact .hit hy (PySem.W.keq_at r1 r2 s1 s2 hu) (k hr)
def rEqDct (K : PySem.W.Frag) (neg : Bool) : R2 := fun x y H Q => ∃ a b ks ls r, x = .ref a ∧ y = .ref b ∧ H a = some (.dK ks) ∧ H b = some (.dK ls) ∧ (ks.length = ls.length → Hits K H ls ks r) ∧ Q (.bl (if neg then !(ks.length == ls.length && r) else (ks.length == ls.length && r))) H
theorem op_neDct (hu : X.A.units + 66 < cLine) : OpR X (compareOp .NotEq) (rEqDct X.K true) := by
  intro pins s σ H x y v u Q I rx ry h
  obtain ⟨a, b, ks, ls, r, rfl, rfl, ea, eb, hp, q⟩ := h
  obtain rfl : v = Value.ref a := rx
  obtain rfl : u = Value.ref b := ry
  obtain ⟨_, ya, va, ra, da⟩ := (show ObjOk X.prog X.w H s.heap a (.dK ks) from I.hok a _ ea)
  obtain ⟨_, yb, vb, rb, db⟩ := (show ObjOk X.prog X.w H s.heap b (.dK ls) from I.hok b _ eb)
  have l1 : ks.length = va.length := ra.length
  have l2 : ls.length = vb.length := rb.length
  refine PySem.W.keq_ne (knd := mixKind X.prog X.w) (r := r) ya yb da db (by omega) (fun hl => hits_go I (by show X.A.units + 1 + 64 < cLine; omega) rb ra (hp (by omega))) ?_
  rw [← l1, ← l2]
  exact ⟨.bl _, H, I, rfl, q⟩
theorem op_eqDct (hu : X.A.units + 66 < cLine) : OpR X (compareOp .Eq) (rEqDct X.K false) := by
  intro pins s σ H x y v u Q I rx ry h
  obtain ⟨a, b, ks, ls, r, rfl, rfl, ea, eb, hp, q⟩ := h
  obtain rfl : v = Value.ref a := rx
  obtain rfl : u = Value.ref b := ry
  obtain ⟨_, ya, va, ra, da⟩ := (show ObjOk X.prog X.w H s.heap a (.dK ks) from I.hok a _ ea)
  obtain ⟨_, yb, vb, rb, db⟩ := (show ObjOk X.prog X.w H s.heap b (.dK ls) from I.hok b _ eb)
  have l1 : ks.length = va.length := ra.length
  have l2 : ls.length = vb.length := rb.length
  refine PySem.W.keq_eq (knd := mixKind X.prog X.w) (r := r) ya yb da db (by omega) (fun hl => hits_go I (by show X.A.units + 1 + 64 < cLine; omega) rb ra (hp (by omega))) ?_
  rw [← l1, ← l2]
  exact ⟨.bl _, H, I, rfl, q⟩
def hitsD (ls : List (Key × D)) : List (Key × D) → Option Bool
  | [] => some true
  | (k, d) :: r => match valD ls k with
    | none => some false
    | some e => match d.py, e.py, hitsD ls r with
      | some p, some q, some b => if SeqAt.shaped p && SeqAt.shaped q then some (PyData.eqv p q && b) else none
      | _, _, _ => none
theorem hitsD_is {ρ : Rho} {H : Hp} {vs : List (Key × V)} {ls : List (Key × D)} (rl : KDs K ρ H vs ls) : ∀ (ks : List (Key × V)) (kds : List (Key × D)) (b : Bool), KDs K ρ H ks kds → hitsD ls kds = some b → Hits K H vs ks b
  | [], [], _, _, e => by cases e; exact .nil
  | (x, v) :: ks, (y, d) :: kds, b, ⟨h1, h2, h3⟩, e => by
    have h1 : x = y := h1
    subst h1
    unfold hitsD at e
    rcases rl.val (k := x) with ⟨z1, z2⟩ | ⟨u, w, z1, z2, rv⟩
    · rw [z1] at e
      cases e
      exact .miss z2
    · rw [z1] at e
      split at e
      · next e0 => cases e0
      · next w' e0 =>
        cases e0
        split at e
        · next p q b' e1 e2 e3 =>
          split at e
          · next hs =>
            cases e
            have hs := Bool.and_eq_true_iff.mp hs
            exact .hit z2 (py_dp d v p h2 e1) (py_dp w u q rv e2) hs.1 hs.2 (hitsD_is rl ks kds b' h3 e3)
          · cases e
        · cases e
def oEqDct (neg : Bool) : Op2 := fun x y M => match dctOf M x, dctOf M y with
  | some ks, some ls => if ks.length = ls.length then match hitsD ls ks with
      | some b => some (.bl (if neg then !b else b), M)
      | none => none
    else some (.bl neg, M)
  | _, _ => none
theorem opa_eqDct {neg : Bool} : OpA K cl (rEqDct K neg) (oEqDct neg) := by
  intro ρ H M x y dx dy z M' Q rx ry A e q
  unfold oEqDct at e
  split at e
  · next ks ls e1 e2 =>
    obtain ⟨a, va, rfl, h1, r1⟩ := dct_at A rx e1
    obtain ⟨b, vb, rfl, h2, r2⟩ := dct_at A ry e2
    have l1 := r1.length
    have l2 := r2.length
    split at e
    · next hl =>
      split at e
      · next b' hb =>
        cases e
        refine ⟨a, b, va, vb, b', rfl, rfl, h1, h2, fun _ => hitsD_is r2 va ks b' r1 hb, ?_⟩
        have hq := q ρ (.bl (if neg then !b' else b')) H (Ext.refl _ _) A (.bl _)
        rw [show (va.length == vb.length) = true by rw [l1, l2, hl]; exact beq_self_eq_true _]
        simpa using hq
      · cases e
    · next hl =>
      cases e
      refine ⟨a, b, va, vb, false, rfl, rfl, h1, h2, fun z => absurd (by rw [← l1, ← l2]; exact z) hl, ?_⟩
      have hq := q ρ (.bl neg) H (Ext.refl _ _) A (.bl _)
      cases neg <;> simpa using hq
  · cases e
/-! ### C() where there is no __init__ but object's -/
structure MkB (K : PySem.W.Frag) (C : Addr) : Prop where
  makes : PySem.W.makesIn K C = true
  init : PySem.W.findIn K (.ref C) "__init__" = some (some (.builtin "object.__init__"))
  top : PySem.W.mroIn K C (.type "object") = some true
  self : PySem.W.mroIn K C (.ref C) = some true
  kp : PySem.W.keepIn K (.ref C) = true
end
end AL
/-! C() where there is no __init__ but object's. -/
namespace AL
open PySem PySem.Spec PyProof.Rows L2
section
variable {X : Cx} {cl : Nat → Addr} {K : PySem.W.Frag}
theorem run_bare {pins : List (Addr × Obj)} {σ : L2.St} {H : Hp} {s : Shared} {C : Addr} {Q : VK} (M : MkB X.K C) (I : Inv X pins σ H s)
    (h : ∀ x dx, H x = none → H dx = none → dx ≠ x → Q (.ref x) (upd (upd H dx (.own x)) x (.ins C dx []))) :
    wpAny (model X.prog X.w) X.A (call (.ref C) []) (EP X pins σ Q) X.xe s := by
  have hq := h (s.heap.objs.size + 1) s.heap.objs.size (I.hok.fresh (Nat.le_succ _)) (I.hok.fresh (Nat.le_refl _)) (Nat.ne_of_lt (Nat.lt_succ_self _))
  have I2 := Inv.made (C := C) I
  have hobj : ((s.heap.push PySem.W.emptyDict).push (PySem.W.instObj C s.heap.objs.size)).get? (s.heap.objs.size + 1) = some (PySem.W.instObj C s.heap.objs.size) := by
    have := Heap.get?_push_size (s.heap.push PySem.W.emptyDict) (o := PySem.W.instObj C s.heap.objs.size) rfl
    rwa [Heap.size_push] at this
  refine wpAny_call (make_map0 I.kIn M.makes M.init (fun self => PySem.W.Looks.of_pure (PySem.W.oi_bind _)) ?_)
  have t1 : PySem.W.Looks (model X.prog X.w) ((s.heap.push PySem.W.emptyDict).push (PySem.W.instObj C s.heap.objs.size)) (typeOf (.ref (s.heap.objs.size + 1))) (.ref C) := NwA.type_at hobj rfl
  have t2 : PySem.W.Looks (model X.prog X.w) ((s.heap.push PySem.W.emptyDict).push (PySem.W.instObj C s.heap.objs.size)) (isInstance (.ref (s.heap.objs.size + 1)) (.type "object")) true := t1.andThen (PySem.W.looks_mroIn I2.kIn M.top)
  refine codeAny_call_builtin PySem.W.oi_plain PySem.W.entry_oi (@PySem.W.check_slot (model X.prog X.w) _ _ _ "object.__init__" "object" "__init__" (.ref (s.heap.objs.size + 1)) [] [] _ PySem.W.oi_kind PySem.W.oi_split t2 (NwA.oi_args_any (.ref (s.heap.objs.size + 1)) [] []) ?_)
  rw [PySem.W.oi_run]
  exact wpAny_pure ⟨rfl, ⟨V.ref (s.heap.objs.size + 1), _, I2, rfl, hq⟩⟩
def tBare (C : Addr) : TE := fun _ H Q => ∀ x dx, H x = none → H dx = none → dx ≠ x → Q (.ref x) (upd (upd H dx (.own x)) x (.ins C dx []))
theorem pe_bare {C : Addr} {x : Str} {p pos : Pos} (M : MkB X.K C) (hg : Gl X x) (hm : X.mg x = some (.ref C)) (hdb : (x == ("__debug__" : Str)) = false := by decide) : PE X (.Call (.Name x p) [] [] pos) (tBare C) := by
  refine ⟨fun pins s σ H Q I h => ?_⟩
  refine wpAny_Call_Name_kw (ld_glob I hg hm ?_ hdb)
  exact PySem.W.callWith_K0 I.kIn M.kp (run_bare M I h)
def fBare (c : Nat) : AE := fun _ M => some (.ref M.nx, M.new (.ins c []))
/-- a class without __init__ -/
structure BareOk (mg : Str → Option Value) (K : PySem.W.Frag) (cl : Nat → Addr) (c : Nat) (x : Str) : Prop where
  bare : MkB K (cl c)
  mg : mg x = some (.ref (cl c))
theorem a_bare {c : Nat} {x : Str} {p pos : Pos} (B : BareOk X.mg X.K cl c x) (hg : Gl X x := by rfl) (hdb : (x == ("__debug__" : Str)) = false := by decide) : PE X (.Call (.Name x p) [] [] pos) (cE X.K cl (fBare c)) := PE.imp (pe_bare B.bare hg B.mg hdb) fun σ H Q h => by
  obtain ⟨ρ, ds, M, d, M', E, A, e, q⟩ := h
  cases e
  intro x dx hx hdx hne
  have s1 : Same H (upd H dx (.own x)) := same_upd hdx
  have hx1 : upd H dx (.own x) x = none := by rw [upd_ne (fun z => hne z.symm)]; exact hx
  have sm : Same H (upd (upd H dx (.own x)) x (.ins (cl c) dx [])) := fun b o h => same_upd hx1 b o (s1 b o h)
  have A2 := A.new (c := .ins c []) sm hx ⟨dx, [], upd_same, trivial⟩
  exact q _ _ _ (A.ext_new sm x) A2 (.ref rhoNew_same)
/-! ### == by an own __eq__, the other one of another class -/
structure SubNo (K : PySem.W.Frag) (cl : Nat → Addr) (c c' : Nat) : Prop where
  no : PySem.W.subIn K (.ref (cl c')) (.ref (cl c)) = some false
def rEqX (K : PySem.W.Frag) (C : Addr) (sp : Sp) : R2 := fun x y H Q => ∃ a b dx dy C' fs gs, x = .ref a ∧ y = .ref b ∧ H a = some (.ins C dx fs) ∧ H b = some (.ins C' dy gs) ∧ (C' = C ∨ PySem.W.subIn K (.ref C') (.ref C) = some false) ∧ sp [.ref a, .ref b] H (fun v H' => ∃ k, v = .bl k ∧ Q v H') E0
theorem op_eqX {C f : Addr} {n : Nat} {fd : FuncData} {ps : List Str} {sp : Sp} (F : FnOk X.prog X.w X.K X.mg X.base CX0 n f fd ps sp) (hr : Room n X.A)
    (hs : PySem.W.findIn X.K (.ref C) "__eq__" = some (some (.ref f))) (hf : PySem.W.isFn X.K (.ref f) = true) (hb : Binds X.K fd ps []) : OpR X (compareOp .Eq) (rEqX X.K C sp) := by
  intro pins s σ H x y v u Q I rx ry d
  obtain ⟨a, b, dx, dy, C', fs, gs, rfl, rfl, ha, hb', hC, hsp⟩ := d
  cases rx
  cases ry
  show wpAny (model X.prog X.w) X.A (richCompare .Eq (.ref a) (.ref b)) (EP X pins σ Q) X.xe s
  obtain ⟨mA, J, _⟩ := ins_get I.hok ha
  obtain ⟨mB, J', _⟩ := ins_get I.hok hb'
  obtain ⟨od, J, _⟩ := J.look
  obtain ⟨od', J', _⟩ := J'.look
  obtain ⟨m, hF⟩ := I.fr
  refine PySem.W.cmp_K (op := .Eq) (tb := .ref C') hr.units0 hF I.ok.mod.kin J J'.type (by
    rcases hC with rfl | hC
    · simp [PySem.W.notFirst]
    · simp [PySem.W.notFirst, hC]) hs hf ?_
  have hl := F.len _ _ _ _ hsp
  have r2 : Vals [V.ref a, V.ref b] [Value.ref a, Value.ref b] := .cons rfl (.cons rfl .nil)
  refine wpAny_call (codeAny_mono (F.run X.A X.stack s H ⟨[.ref a, .ref b], []⟩ [.ref a, .ref b] [.ref a, .ref b] _ E0 hr I.env0 (by
    have := hb s [.ref a, .ref b] I.kIn (by simpa using hl)
    simpa using this) r2 hsp) fun r s' hq => ?_)
  cases r with
  | error e => exact hq.elim
  | ok fl =>
    cases fl with
    | ret w =>
      obtain ⟨z, H', I', rz, k, ez, q⟩ := I.after hq
      subst ez
      cases rz
      exact ⟨.bl k, H', I', rfl, q⟩
    | next => exact False.elim hq
    | brk => exact False.elim hq
    | cont => exact False.elim hq
def oEqX (c : Nat) (others : List Nat) (F : AF) : Op2 := fun x y M => match x, y with
  | .ref n, .ref m => if isCls M n c = true then match M.mem m with
      | some (.ins c' _) => if c' = c ∨ c' ∈ others then match F [x, y] M with
          | some (.bl b, M1) => some (.bl b, M1)
          | _ => none
        else none
      | _ => none
    else none
  | _, _ => none
theorem opa_eqX {c : Nat} {others : List Nat} {F : AF} (ap : ∀ c' ∈ others, SubNo K cl c c') : OpA K cl (rEqX K (cl c) (cF K cl 2 F)) (oEqX c others F) := by
  intro ρ H M x y dx dy z M' Q rx ry A e q
  unfold oEqX at e
  split at e
  · next n m =>
    split at e
    · next hc =>
      split at e
      · next c' fs hm =>
        split at e
        · next hcc =>
          split at e
          · next b M1 e1 =>
            cases e
            have rx' := rx
            have ry' := ry
            cases rx with
            | @ref a _ hra =>
            cases ry with
            | @ref b' _ hrb =>
            obtain ⟨d1, f1, h1⟩ := isCls_at A hra hc
            obtain ⟨d2, f2, h2, _⟩ := A.at hrb hm
            refine ⟨a, b', d1, d2, cl c', f1, f2, rfl, rfl, h1, h2, ?_, cF_go (es := [.ref n, .ref m]) rfl (.cons rx' (.cons ry' .nil)) A e1 fun ρ1 v H1 x1 A1 r1 => ?_⟩
            · rcases hcc with rfl | hcc
              · exact .inl rfl
              · exact .inr (ap c' hcc).no
            · cases r1
              exact ⟨b, rfl, q ρ1 _ H1 x1 A1 (.bl _)⟩
          · cases e
        · cases e
      · cases e
    · cases e
  · cases e
section
variable {c k j : Nat} {others : List Nat} {F : AF} {a b : Expr} {fa fb : AE} {pos : Pos}
theorem a_eqX (C : EqOk X.prog X.w X.K X.mg X.base cl c k F) (ap : ∀ c' ∈ others, SubNo X.K cl c c') (hr : Room j X.A) (ha : PE X a (cE X.K cl fa)) (hb : PE X b (cE X.K cl fb)) (hkj : k ≤ j := by decide) : PE X (.Compare a [.Eq] [b] pos) (cE X.K cl (fBin (oEqX c others F) fa fb)) := by
  obtain ⟨f, fd, ps, h1, h2, h3, h4⟩ := C.ex
  exact a_cmp (op_eqX h3 (hr.mono hkj) h1 h2 h4) (opa_eqX ap) ha hb
theorem a_teqX (C : EqOk X.prog X.w X.K X.mg X.base cl c k F) (ap : ∀ c' ∈ others, SubNo X.K cl c c') (hr : Room j X.A) (ha : PE X a (cE X.K cl fa)) (hb : PE X b (cE X.K cl fb)) (hkj : k ≤ j := by decide) : PT X (.Compare a [.Eq] [b] pos) (cT X.K cl (fTst (fBin (oEqX c others F) fa fb))) := by
  obtain ⟨f, fd, ps, h1, h2, h3, h4⟩ := C.ex
  exact a_tcmp (op_eqX h3 (hr.mono hkj) h1 h2 h4) (opa_eqX ap) ha hb
end
end
end AL
namespace AL
open L2 PySem
theorem hu66 {A : Around} {k : Nat} (hr : Room k A) : A.units + 66 < cLine := Nat.lt_of_le_of_lt (Nat.add_le_add_left (by decide : 66 ≤ 200) _) (by have := hr.un; omega)
end AL
/-! Dict displays, d[k], d[k] as a target, list(d.items()), xs[::-1], dict(pairs of a list), dict(d), max, min, sorted, index, remove. -/
namespace AL
open PySem PySem.Spec PyProof.Rows L2
section
variable {X : Cx} {cl : Nat → Addr} {K : PySem.W.Frag}
/-! ### d[k] -/
def fDIx (fo fi : AE) : AE := fun ds M => match fo ds M with
  | some (o, M1) => match fi ds M1 with
    | some (k, M2) => match dctOf M2 o, keyD k with
      | some kds, some kk => match valD kds kk with
        | some v => some (v, M2)
        | none => none
      | _, _ => none
    | none => none
  | none => none
theorem a_dix {o e : Expr} {fo fi : AE} {pos : Pos} (hu : X.A.units + 1 < cLine) (ho : PE X o (cE X.K cl fo)) (he : PE X e (cE X.K cl fi)) (hs : PlainIx e := by exact fun _ _ => rfl) :
    PE X (.Subscript o e pos) (cE X.K cl (fDIx fo fi)) := PE.imp (pe_dget hu ho he hs) fun σ H Q h => by
  obtain ⟨ρ, ds, M, d, M', E, A, e, q⟩ := h
  unfold fDIx at e
  split at e
  · next o1 M1 e1 =>
    split at e
    · next k M2 e2 =>
      split at e
      · next kds kk e3 hk =>
        split at e
        · next v e4 =>
          cases e
          refine goE E A e1 fun ρ1 v1 H1 x1 A1 r1 => ?_
          refine goE (E.up x1) A1 e2 fun ρ2 v2 H2 x2 A2 r2 => ?_
          obtain ⟨a, kvs, rfl, h3, h4⟩ := dct_at A2 (r1.up x2) e3
          have hk' := keyD_rep r2 hk
          rcases h4.val (k := kk) with ⟨z1, z2⟩ | ⟨u, d', z1, z2, rv⟩
          · rw [e4] at z1; cases z1
          · rw [e4] at z1
            cases z1
            exact ⟨a, u, rfl, .inl ⟨kvs, kk, .inl h3, hk', z2.symm⟩, q ρ2 u H2 (x1.trans x2) A2 rv⟩
        · cases e
      · cases e
    · cases e
  · cases e
/-! ### d[k] = .. as a target -/
def gDSub (fo fi : AE) : AG := fun d ds M => match fo ds M with
  | some (.ref n, M1) => match fi ds M1 with
    | some (k, M2) => match M2.mem n, keyD k with
      | some (.dct kds), some kk => if kds.length < big then some (ds, M2.set n (.dct (putKD kds kk d))) else none
      | _, _ => none
    | none => none
  | _ => none
theorem t_dsub {o i : Expr} {fo fi : AE} {pos : Pos} (hu : X.A.units + 1 < cLine) (ho : PE X o (cE X.K cl fo)) (hi : PE X i (cE X.K cl fi))
    (ha : ∀ v, assign (.Subscript o i pos) X.env v = (do
      let ov ← holding [v] (eval o X.env)
      let iv ← holding [v, ov] (eval i X.env)
      standAt pos
      holding [v, ov, iv] (setItem ov iv v)
      release [v, ov, iv] []) := by intro _; rfl) : PG X (.Subscript o i pos) (cG X.K cl (gDSub fo fi)) := PG.imp (pg_sub ho hi (set_dict hu) ha) fun v σ H Q h => by
  obtain ⟨ρ, ds, M, d, ds', M', E, A, r, e, q⟩ := h
  unfold gDSub at e
  split at e
  · next n M1 e1 =>
    split at e
    · next k M2 e2 =>
      split at e
      · next kds kk hm hk =>
        split at e
        · next hl =>
          cases e
          refine goE E A e1 fun ρ1 v1 H1 x1 A1 r1 => ?_
          refine goE (E.up x1) A1 e2 fun ρ2 v2 H2 x2 A2 r2 => ?_
          have r1' := r1.up x2
          cases r1' with
          | @ref a _ hr =>
          obtain ⟨kvs, h1, rs⟩ := A2.at hr hm
          have hk' := keyD_rep r2 hk
          have x3 : Ext ρ2 H2 ρ2 (upd H2 a (.dK (putK kvs kk v))) := A2.ext_write hr hm trivial
          have A3 : Abs X.K cl ρ2 (upd H2 a (.dK (putK kvs kk v))) (M2.set n (.dct (putKD kds kk d))) := A2.write hr hm trivial trivial ⟨_, upd_same, (rs.put (r.up (x1.trans x2))).up x3⟩
          exact ⟨a, _, rfl, .inl ⟨kvs, kk, h1, hk', by rw [rs.length]; exact Nat.lt_of_lt_of_le hl (by decide), rfl⟩, q ρ2 σ _ ((x1.trans x2).trans x3) A3 (E.up ((x1.trans x2).trans x3))⟩
        · cases e
      · cases e
    · cases e
  · cases e
/-! ### {k: v, ..} -/
def fPrs : List (AE × AE) → DS → AS → Option (List (D × D) × AS)
  | [], _, M => some ([], M)
  | (fk, fv) :: r, ds, M => match fk ds M with
    | some (k, M1) => match fv ds M1 with
      | some (v, M2) => match fPrs r ds M2 with
        | some (ps, M3) => some ((k, v) :: ps, M3)
        | none => none
      | none => none
    | none => none
def cPrs (K : PySem.W.Frag) (cl : Nat → Addr) (trs : List (AE × AE)) : List (TE × TE) := trs.map fun p => (cE K cl p.1, cE K cl p.2)
inductive Reps2 (K : PySem.W.Frag) (ρ : Rho) (H : Hp) : List (V × V) → List (D × D) → Prop
  | nil : Reps2 K ρ H [] []
  | cons {a b : V} {x y : D} {vs : List (V × V)} {es : List (D × D)} : Rep K ρ H a x → Rep K ρ H b y → Reps2 K ρ H vs es → Reps2 K ρ H ((a, b) :: vs) ((x, y) :: es)
theorem goPrs : ∀ {trs : List (AE × AE)} {ρ : Rho} {σ : L2.St} {H : Hp} {ds : DS} {M M' : AS} {ps : List (D × D)} {Q : List (V × V) → Hp → Prop}, Env K ρ H σ ds → Abs K cl ρ H M → fPrs trs ds M = some (ps, M') →
    (∀ ρ' vs H', Ext ρ H ρ' H' → Abs K cl ρ' H' M' → Reps2 K ρ' H' vs ps → Q vs H') → tPairs (cPrs K cl trs) σ H Q
  | [], ρ, σ, H, ds, M, M', ps, Q, E, A, e, q => by
    cases e
    exact q ρ [] H (Ext.refl _ _) A .nil
  | (fk, fv) :: r, ρ, σ, H, ds, M, M', ps, Q, E, A, e, q => by
    unfold fPrs at e
    split at e
    · next k M1 e1 =>
      split at e
      · next v M2 e2 =>
        split at e
        · next ps' M3 e3 =>
          cases e
          show cE K cl fk σ H _
          refine goE E A e1 fun ρ1 v1 H1 x1 A1 r1 => ?_
          show cE K cl fv σ H1 _
          refine goE (E.up x1) A1 e2 fun ρ2 v2 H2 x2 A2 r2 => ?_
          refine goPrs ((E.up x1).up x2) A2 e3 fun ρ3 vs H3 x3 A3 r3 => ?_
          exact q ρ3 _ H3 ((x1.trans x2).trans x3) A3 (.cons ((r1.up x2).up x3) (r2.up x3) r3)
        · cases e
      · cases e
    · cases e
def keysOf : List (D × D) → Option (List (Key × D))
  | [] => some []
  | (k, v) :: r => match keyD k, keysOf r with
    | some kk, some q => some ((kk, v) :: q)
    | _, _ => none
theorem keysOf_rep {ρ : Rho} {H : Hp} : ∀ {ps : List (D × D)} {vs : List (V × V)} {kds : List (Key × D)}, Reps2 K ρ H vs ps → keysOf ps = some kds → ∃ kvs : List (Key × V), vs = kvs.map (fun kv => (kV kv.1, kv.2)) ∧ KDs K ρ H kvs kds
  | [], _, _, r, e => by cases r; cases e; exact ⟨[], rfl, trivial⟩
  | (k, v) :: ps, _, _, r, e => by
    unfold keysOf at e
    split at e
    · next kk q h1 h2 =>
      cases e
      cases r with
      | cons ra rb rr =>
        obtain ⟨kvs, rfl, hk⟩ := keysOf_rep rr h2
        refine ⟨(kk, _) :: kvs, ?_, rfl, rb, hk⟩
        rw [keyD_rep ra h1]
        rfl
    · cases e
def fDisp (trs : List (AE × AE)) : AE := fun ds M => match fPrs trs ds (M.new (.dct [])) with
  | some (ps, M1) => match keysOf ps, M1.mem M.nx with
    | some kds, some (.dct []) => if kds.length ≤ 15 then some (.ref M.nx, M1.set M.nx (.dct (mergeD [] kds))) else none
    | _, _ => none
  | none => none
theorem a_disp {keys : List (Option Expr)} {values : List Expr} {trs : List (AE × AE)} {pos : Pos} (h : PPs X pos keys values (cPrs X.K cl trs)) (hall : keys.all (·.isSome) = true := by rfl) (hl : keys.length = values.length := by rfl) (h0 : keys ≠ [] := by exact List.cons_ne_nil _ _) (h15 : keys.length ≤ 15 := by decide) :
    PE X (.Dict keys values pos) (cE X.K cl (fDisp trs)) := PE.imp (pe_disp h hall hl h0 h15) fun σ H Q h => by
  obtain ⟨ρ, ds, M, d, M', E, A, e, q⟩ := h
  unfold fDisp at e
  split at e
  · next ps M1 e1 =>
    split at e
    · next kds e2 e3 =>
      split at e
      · next hz =>
        cases e
        intro p hp
        have sm : Same H (upd H p (.dK [])) := same_upd hp
        have x0 := A.ext_new sm p
        have A0 : Abs X.K cl (rhoNew ρ M.nx p) (upd H p (.dK [])) (M.new (.dct [])) := A.new sm hp ⟨[], upd_same, trivial⟩
        refine goPrs (E.up x0) A0 e1 fun ρ1 vs H1 x1 A1 r1 => ?_
        have hr : ρ1 M.nx = some p := x1.re _ _ rhoNew_same
        obtain ⟨kv0, g1, g2⟩ := A1.at hr e3
        have : kv0 = [] := by
          have := g2.length
          exact List.length_eq_zero_iff.mp this
        subst this
        obtain ⟨kvs, rfl, hk⟩ := keysOf_rep r1 e2
        refine ⟨g1, kvs, rfl, by rw [hk.length]; exact hz, ?_⟩
        have x2 : Ext ρ1 H1 ρ1 (upd H1 p (.dK (mergeK [] kvs))) := A1.ext_write hr e3 trivial
        have A2 : Abs X.K cl ρ1 (upd H1 p (.dK (mergeK [] kvs))) (M1.set M.nx (.dct (mergeD [] kds))) := A1.write hr e3 trivial trivial ⟨_, upd_same, (KDs.merge _ _ _ _ hk (show KDs X.K ρ1 H1 [] [] from trivial)).up x2⟩
        exact q ρ1 _ _ ((x0.trans x1).trans x2) A2 (.ref hr)
      · cases e
    · cases e
  · cases e
theorem pr_nil {pos : Pos} : PPs X pos [] [] (cPrs X.K cl []) := pps_nil
theorem pr_cons {pos : Pos} {k v : Expr} {ks : List (Option Expr)} {vs : List Expr} {fk fv : AE} {trs : List (AE × AE)} (hk : PE X k (cE X.K cl fk)) (hv : PE X v (cE X.K cl fv)) (hr : PPs X pos ks vs (cPrs X.K cl trs)) :
    PPs X pos (some k :: ks) (v :: vs) (cPrs X.K cl ((fk, fv) :: trs)) := pps_cons hk hv hr
/-! ### list(d.items()) -/
def pairD (kd : Key × D) : D := .tup [keyOfK kd.1, kd.2]
def fListItems (fo : AE) : AE := fun ds M => match fo ds M with
  | some (o, M1) => match dctOf M1 o with
    | some kds => some (.ref M1.nx, M1.new (.lst (kds.map pairD)))
    | none => none
  | none => none
theorem items_reps {ρ : Rho} {H H' : Hp} (x : Ext ρ H ρ H') : ∀ {ts : List Addr} {kvs : List (Key × V)} {kds : List (Key × D)}, Paired (fun (t : Addr) (q : Key × V) => H' t = some (.tup [kV q.1, q.2])) ts kvs → KDs K ρ H kvs kds → Reps K ρ H' (ts.map V.ref) (kds.map pairD)
  | [], [], [], _, _ => .nil
  | [], [], _ :: _, _, h => h.elim
  | t :: ts, (k, v) :: kvs, [], _, h => h.elim
  | t :: ts, (k, v) :: kvs, (k', d) :: kds, p, ⟨a, b, c⟩ => by
    cases p with
    | cons p1 p2 =>
      simp only at a
      subst a
      exact .cons (.tup (.inl (.inl p1)) (.cons (rep_key _) (.cons (b.up x) .nil))) (items_reps x p2 c)
theorem a_listItems {e : Expr} {fo : AE} {p apos cpos pos : Pos} (hm : X.mg "list" = none) (he : PE X e (cE X.K cl fo)) (hc : X.calm = true := by rfl) (hg : Gl X "list" := by rfl) (hbase : attributeBase e "items" X.env (eval e X.env) = eval e X.env := by rfl) (hline : (apos.endLine == cpos.line) = true := by rfl)
    (hs : starEach [.Call (.Attribute e "items" apos) [] [] cpos] X.env = (false, eval (.Call (.Attribute e "items" apos) [] [] cpos) X.env) :: starEach [] X.env := by rfl) :
    PE X (.Call (.Name "list" p) [.Call (.Attribute e "items" apos) [] [] cpos] [] pos) (cE X.K cl (fListItems fo)) := PE.imp (LiI.pe_listItems hc he hg hm (by decide +kernel) hbase hline hs) fun σ H Q h => by
  obtain ⟨ρ, ds, M, d, M', E, A, e, q⟩ := h
  unfold fListItems at e
  split at e
  · next o M1 e1 =>
    split at e
    · next kds hk =>
      cases e
      refine goE E A e1 fun ρ1 v1 H1 x1 A1 r1 => ?_
      obtain ⟨a, kvs, rfl, h1, h2⟩ := dct_at A1 r1 hk
      refine ⟨a, kvs, rfl, h1, fun H' p ts k1 k2 k3 k4 k5 k6 => ?_⟩
      have sm : Same H1 H' := k1
      have xe := A1.ext_new sm p
      have A2 : Abs X.K cl (rhoNew ρ1 M1.nx p) H' (M1.new (.lst (kds.map pairD))) := A1.new sm k2 ⟨_, k5, (items_reps (Ext.same sm) k6 h2).up ⟨xe.re, fun _ _ h => h, fun _ _ _ h => h⟩⟩
      exact q _ _ _ (x1.trans xe) A2 (.ref rhoNew_same)
    · cases e
  · cases e
/-! ### xs[::-1] -/
def fRev (fo : AE) : AE := fun ds M => match fo ds M with
  | some (o, M1) => match lstOf M1 o with
    | some xs => some (.ref M1.nx, M1.new (.lst xs.reverse))
    | none => none
  | none => none
theorem Reps.reverse {ρ : Rho} {H : Hp} : ∀ {ds : List D} {vs : List V}, Reps K ρ H vs ds → Reps K ρ H vs.reverse ds.reverse
  | [], _, r => by cases r; exact .nil
  | d :: ds, _, r => by
    cases r with
    | cons a b => rw [List.reverse_cons, List.reverse_cons]; exact (Reps.reverse b).append (.cons a .nil)
theorem a_rev {e : Expr} {fo : AE} {k : Nat} {p1 p2 p3 pos : Pos} (he : PE X e (cE X.K cl fo)) : PE X (.Subscript e (.Slice none none (some (.UnaryOp .USub (.Constant (.int 1) k p1) p2)) p3) pos) (cE X.K cl (fRev fo)) := PE.imp (pe_revL he) fun σ H Q h => by
  obtain ⟨ρ, ds, M, d, M', E, A, e, q⟩ := h
  unfold fRev at e
  split at e
  · next o M1 e1 =>
    split at e
    · next xs hx =>
      cases e
      refine goE E A e1 fun ρ1 v1 H1 x1 A1 r1 => ?_
      obtain ⟨a, vs, rfl, s, rs⟩ := lst_at A1 r1 hx
      exact ⟨a, vs, rfl, s, fun p hp => new_lst A1 hp rs.reverse fun ρ' v H' x => q ρ' v H' (x1.trans x)⟩
    · cases e
  · cases e
/-! ### dict(xs) of a list of pairs; dict(d) -/
theorem prsL_rep {ρ : Rho} {H : Hp} : ∀ {ds : List D} {vs : List V} {kds : List (Key × D)}, Reps K ρ H vs ds → prsOf ds = some kds → ∃ (ps : List Addr) (kvs : List (Key × V)), vs = ps.map V.ref ∧ Paired (fun p kv => SqT K H p [kV kv.1, kv.2]) ps kvs ∧ KDs K ρ H kvs kds := fun r e => prs_rep r e
def oDictL : OpN := fun es M => match es with
  | [.ref n] => match dctOf M (.ref n), lstOf M (.ref n) with
    | some kds, _ => some (.ref M.nx, M.new (.dct kds))
    | none, some xs => match prsOf xs with
      | some kds => some (.ref M.nx, M.new (.dct (mergeD [] kds)))
      | none => none
    | none, none => none
  | _ => none
theorem caa_dictL : CaA K cl (fun xs H Q => (∃ (a : Addr) (kvs : List (Key × V)), xs = [.ref a] ∧ Rd H a (.dK kvs) ∧ ∀ p, H p = none → Q (.ref p) (upd H p (.dK kvs))) ∨ (∃ (a : Addr) (ps : List Addr) (kvs : List (Key × V)), xs = [.ref a] ∧ SqL K H a (ps.map V.ref) ∧ Paired (fun p kv => SqT K H p [kV kv.1, kv.2]) ps kvs ∧
    ∀ p, H p = none → Q (.ref p) (upd H p (.dK (mergeK [] kvs))))) oDictL := by
  intro ρ H M vs ds z M' Q rs A e q
  unfold oDictL at e
  split at e
  · next n =>
    cases rs with
    | cons r1 r2 =>
      cases r2
      split at e
      · next kds h =>
        cases e
        obtain ⟨a, kvs, rfl, h1, h2⟩ := dct_at A r1 h
        exact .inl ⟨a, kvs, rfl, .inl h1, fun p hp => new_dct A hp h2 q⟩
      · next xs _ h =>
        split at e
        · next kds hk =>
          cases e
          obtain ⟨a, us, rfl, s, rr⟩ := lst_at A r1 h
          obtain ⟨ps, kvs, rfl, hp, hkd⟩ := prs_rep rr hk
          exact .inr ⟨a, ps, kvs, rfl, s, hp, fun p hp' => new_dct A hp' (KDs.merge _ _ _ _ hkd (show KDs K ρ H [] [] from trivial)) q⟩
        · cases e
      · cases e
  · cases e
theorem a_dictL {p pos : Pos} {e : Expr} {f : AE} (hm : X.mg "dict" = none) (ha : PE X e (cE X.K cl f)) (hc : X.calm = true := by rfl) (hg : Gl X "dict" := by rfl) (hs : starEach [e] X.env = [(false, eval e X.env)] := by rfl) (hpl : (backTo pos (starEach [] X.env)).any (·.1) = false := by rfl) :
    PE X (.Call (.Name "dict" p) [e] [] pos) (cE X.K cl (fCB oDictL (fCons f fNil))) := a_cty (call_dictD.or (call_dictP hc)) caa_dictL hm (by decide +kernel) (g_cons ha g_nil hs) hg (by decide) (by decide) hs hpl
end
end AL
/-! max, min, sorted, index, remove of lists of ints; * of great ints. -/
namespace AL
open PySem PySem.Spec PyProof.Rows L2
def CMulB (i j : Int) : Prop := i.natAbs.log2 + j.natAbs.log2 < 134000000
theorem CMulB.ok {i j : Int} (h : CMulB i j) : IntMulOk i j := by
  have b : ∀ x : Int, Builtin.Int.intBits x ≤ x.natAbs.log2 + 1 := fun x => by
    unfold Builtin.Int.intBits
    split <;> omega
  have h1 := b i
  have h2 := b j
  have h3 : i.natAbs.log2 + j.natAbs.log2 < 134000000 := h
  have e : bitsLine = 134217728 := by decide
  unfold IntMulOk
  intro z
  rw [Bool.and_eq_true] at z
  have z2 := z.2
  unfold Builtin.Int.intTooBig at z2
  have z3 := of_decide_eq_true z2
  rw [e] at z3
  omega
instance (i j : Int) : Decidable (CMulB i j) := by unfold CMulB; infer_instance
section
variable {X : Cx} {cl : Nat → Addr} {K : PySem.W.Frag}
theorem op_mulB : OpR X (binaryOp .Mult) (rI CMulB fun i j => .int (i * j)) := opI fun _ _ _ _ _ _ _ hc q => mul_int q hc.ok
abbrev oMulB : Op2 := oI CMulB fun i j => .int (i * j)
theorem a_mulB {a b : Expr} {fa fb : AE} {pos : Pos} (ha : PE X a (cE X.K cl fa)) (hb : PE X b (cE X.K cl fb)) : PE X (.BinOp a .Mult b pos) (cE X.K cl (fBin oMulB fa fb)) := a_op op_mulB (opa_I fun _ _ _ _ => .int _) ha hb
/-! ### max, min -/
def maxI : List Int → Int
  | [] => 0
  | [x] => x
  | x :: xs => max x (maxI xs)
def minI : List Int → Int
  | [] => 0
  | [x] => x
  | x :: xs => min x (minI xs)
theorem maxI_spec : ∀ {ns : List Int}, ns ≠ [] → maxI ns ∈ ns ∧ ∀ y ∈ ns, y ≤ maxI ns
  | [], h => (h rfl).elim
  | [x], _ => ⟨List.mem_cons_self, fun y hy => by rcases List.mem_cons.mp hy with e | e; exact Int.le_of_eq e; cases e⟩
  | x :: z :: xs, _ => by
    obtain ⟨h1, h2⟩ := maxI_spec (ns := z :: xs) (List.cons_ne_nil _ _)
    have e : maxI (x :: z :: xs) = max x (maxI (z :: xs)) := rfl
    rw [e]
    refine ⟨?_, fun y hy => ?_⟩
    · rcases Int.le_total x (maxI (z :: xs)) with h | h
      · rw [Int.max_eq_right h]; exact List.mem_cons_of_mem _ h1
      · rw [Int.max_eq_left h]; exact List.mem_cons_self
    · rcases List.mem_cons.mp hy with q | q
      · rw [q]; exact Int.le_max_left _ _
      · exact Int.le_trans (h2 y q) (Int.le_max_right _ _)
theorem minI_spec : ∀ {ns : List Int}, ns ≠ [] → minI ns ∈ ns ∧ ∀ y ∈ ns, minI ns ≤ y
  | [], h => (h rfl).elim
  | [x], _ => ⟨List.mem_cons_self, fun y hy => by rcases List.mem_cons.mp hy with e | e; exact Int.le_of_eq e.symm; cases e⟩
  | x :: z :: xs, _ => by
    obtain ⟨h1, h2⟩ := minI_spec (ns := z :: xs) (List.cons_ne_nil _ _)
    have e : minI (x :: z :: xs) = min x (minI (z :: xs)) := rfl
    rw [e]
    refine ⟨?_, fun y hy => ?_⟩
    · rcases Int.le_total x (minI (z :: xs)) with h | h
      · rw [Int.min_eq_left h]; exact List.mem_cons_self
      · rw [Int.min_eq_right h]; exact List.mem_cons_of_mem _ h1
    · rcases List.mem_cons.mp hy with q | q
      · rw [q]; exact Int.min_le_left _ _
      · exact Int.le_trans (Int.min_le_right _ _) (h2 y q)
def oInts1 (f : List Int → AS → Option (D × AS)) : OpN := fun es M => match es with
  | [d] => match lstOf M d with
    | some xs => match intsOf xs with
      | some ns => f ns M
      | none => none
    | none => none
  | _ => none
theorem ints1 {f : List Int → AS → Option (D × AS)} {ρ : Rho} {H : Hp} {M M' : AS} {vs : List V} {ds : List D} {z : D} (A : Abs K cl ρ H M) (rs : Reps K ρ H vs ds) (e : oInts1 f ds M = some (z, M')) : ∃ a ns, vs = [.ref a] ∧ SqL K H a (ns.map V.int) ∧ f ns M = some (z, M') := by
  unfold oInts1 at e
  split at e
  · next d =>
    split at e
    · next xs h =>
      split at e
      · next ns hn =>
        cases rs with
        | cons r1 r2 =>
          cases r2
          obtain ⟨a, us, rfl, s, rr⟩ := lst_at A r1 h
          have := ints_are rr hn
          subst this
          exact ⟨a, ns, rfl, s, e⟩
      · cases e
    · cases e
  · cases e
def oMaxL : OpN := oInts1 fun ns M => if ns = [] then none else some (.int (maxI ns), M)
def oMinL : OpN := oInts1 fun ns M => if ns = [] then none else some (.int (minI ns), M)
theorem caa_maxL : CaA K cl (rMax K) oMaxL := by
  intro ρ H M vs ds z M' Q rs A e q
  obtain ⟨a, ns, rfl, s, e⟩ := ints1 A rs e
  split at e
  · cases e
  · next hn =>
    cases e
    refine ⟨a, ns, rfl, s, List.length_pos_iff.mpr hn, fun m h1 h2 => ?_⟩
    obtain ⟨g1, g2⟩ := maxI_spec hn
    rw [Int.le_antisymm (g2 m h1) (h2 _ g1)]
    exact q ρ _ H (Ext.refl _ _) A (.int _)
theorem caa_minL : CaA K cl (rMin K) oMinL := by
  intro ρ H M vs ds z M' Q rs A e q
  obtain ⟨a, ns, rfl, s, e⟩ := ints1 A rs e
  split at e
  · cases e
  · next hn =>
    cases e
    refine ⟨a, ns, rfl, s, List.length_pos_iff.mpr hn, fun m h1 h2 => ?_⟩
    obtain ⟨g1, g2⟩ := minI_spec hn
    rw [Int.le_antisymm (h2 _ g1) (g2 m h1)]
    exact q ρ _ H (Ext.refl _ _) A (.int _)
/-! ### sorted -/
def insI (x : Int) : List Int → List Int
  | [] => [x]
  | y :: ys => if x ≤ y then x :: y :: ys else y :: insI x ys
def sortI : List Int → List Int
  | [] => []
  | x :: xs => insI x (sortI xs)
theorem insI_perm (x : Int) : ∀ ys : List Int, (insI x ys).Perm (x :: ys)
  | [] => .refl _
  | y :: ys => by
    unfold insI
    split
    · exact .refl _
    · exact ((insI_perm x ys).cons y).trans (.swap x y ys)
theorem sortI_perm : ∀ xs : List Int, (sortI xs).Perm xs
  | [] => .refl _
  | x :: xs => (insI_perm x _).trans ((sortI_perm xs).cons x)
theorem insI_sorted {x : Int} : ∀ {ys : List Int}, ys.Pairwise (· ≤ ·) → (insI x ys).Pairwise (· ≤ ·)
  | [], _ => List.pairwise_singleton _ _
  | y :: ys, h => by
    have h' := List.pairwise_cons.mp h
    unfold insI
    split
    · next q =>
      refine List.pairwise_cons.mpr ⟨fun z hz => ?_, h⟩
      rcases List.mem_cons.mp hz with e | e
      · rw [e]; exact q
      · exact Int.le_trans q (h'.1 z e)
    · next q =>
      refine List.pairwise_cons.mpr ⟨fun z hz => ?_, insI_sorted h'.2⟩
      rcases List.mem_cons.mp ((insI_perm x ys).mem_iff.mp hz) with e | e
      · rw [e]; omega
      · exact h'.1 z e
theorem sortI_sorted : ∀ xs : List Int, (sortI xs).Pairwise (· ≤ ·)
  | [] => .nil
  | x :: xs => insI_sorted (sortI_sorted xs)
theorem sorted_eq : ∀ {xs ys : List Int}, xs.Perm ys → xs.Pairwise (· ≤ ·) → ys.Pairwise (· ≤ ·) → xs = ys
  | [], ys, p, _, _ => (List.Perm.nil_eq p)
  | x :: xs, [], p, _, _ => by have := p.length_eq; cases this
  | x :: xs, y :: ys, p, h1, h2 => by
    have g1 := List.pairwise_cons.mp h1
    have g2 := List.pairwise_cons.mp h2
    have e : x = y := by
      have m1 : x ∈ y :: ys := p.mem_iff.mp List.mem_cons_self
      have m2 : y ∈ x :: xs := p.mem_iff.mpr List.mem_cons_self
      rcases List.mem_cons.mp m1 with q | q
      · exact q
      · rcases List.mem_cons.mp m2 with q2 | q2
        · exact q2.symm
        · exact Int.le_antisymm (g1.1 y q2) (g2.1 x q)
    subst e
    rw [sorted_eq (List.Perm.cons_inv p) g1.2 g2.2]
def oSorted : OpN := oInts1 fun ns M => some (.ref M.nx, M.new (.lst ((sortI ns).map D.int)))
theorem repsI {ρ : Rho} {H : Hp} : ∀ ns : List Int, Reps K ρ H (ns.map V.int) (ns.map D.int)
  | [] => .nil
  | n :: ns => .cons (.int n) (repsI ns)
theorem caa_sorted : CaA K cl (rSortedI K) oSorted := by
  intro ρ H M vs ds z M' Q rs A e q
  obtain ⟨a, ns, rfl, s, e⟩ := ints1 A rs e
  cases e
  refine ⟨a, ns, rfl, s, fun ns' p h1 h2 hp => ?_⟩
  rw [sorted_eq (h1.trans (sortI_perm ns).symm) h2 (sortI_sorted ns)]
  exact new_lst A hp (repsI _) q
/-! ### index, remove -/
def fIndex (fo f : AE) : AE := fun ds M => match fo ds M with
  | some (.ref n, M1) => match lstOf M1 (.ref n) with
    | some _ => match f ds M1 with
      | some (.int k, M2) => match lstOf M2 (.ref n) with
        | some xs => match intsOf xs with
          | some ns => match ns.findIdx? (fun y => decide (y = k)) with
            | some j => some (.int (j : Nat), M2)
            | none => none
          | none => none
        | none => none
      | _ => none
    | none => none
  | _ => none
theorem find_at {k : Int} {ns : List Int} {j : Nat} (h : ns.findIdx? (fun y => decide (y = k)) = some j) : ns[j]? = some k ∧ ∀ m : Nat, m < j → ns[m]? ≠ some k := by
  obtain ⟨hj, h1, h2⟩ := List.findIdx?_eq_some_iff_getElem.mp h
  have e : ns[j] = k := of_decide_eq_true h1
  refine ⟨by rw [List.getElem?_eq_getElem hj, e], fun m hm z => ?_⟩
  have hml : m < ns.length := Nat.lt_trans hm hj
  rw [List.getElem?_eq_getElem hml] at z
  have := h2 m hm
  simp only [decide_eq_true_eq] at this
  exact this (Option.some.inj z)
theorem a_index {o e : Expr} {fo f : AE} {apos cpos : Pos} (ho : PE X o (cE X.K cl fo)) (ha : PE X e (cE X.K cl f))
    (h : ∀ (to : TE) (t : TA), PE X o to → PA X [e] t → PE X (.Call (.Attribute o "index" apos) [e] [] cpos) (tBM X.K "list" (rIndex X.K) to t)) (hs : starEach [e] X.env = (false, eval e X.env) :: starEach [] X.env := by rfl) :
    PE X (.Call (.Attribute o "index" apos) [e] [] cpos) (cE X.K cl (fIndex fo f)) := PE.imp (h _ _ ho (pa_cons ha pa_nil hs)) fun σ H Q h => by
  obtain ⟨ρ, ds, M, d, M', E, A, e, q⟩ := h
  unfold fIndex at e
  split at e
  · next n M1 e1 =>
    split at e
    · next ys hl =>
      split at e
      · next k M2 e2 =>
        split at e
        · next xs hx =>
          split at e
          · next ns hn =>
            split at e
            · next j hj =>
              cases e
              refine goE E A e1 fun ρ1 v1 H1 x1 A1 r1 => ?_
              obtain ⟨a, vs, rfl, s, rs⟩ := lst_at A1 r1 hl
              refine ⟨.inl ⟨rfl, vs, s⟩, goE (E.up x1) A1 e2 fun ρ2 v2 H2 x2 A2 r2 => ?_⟩
              cases r2
              obtain ⟨b, us, hb, s2, rs2⟩ := lst_at A2 (r1.up x2) hx
              cases hb
              have := ints_are rs2 hn
              subst this
              obtain ⟨g1, g2⟩ := find_at hj
              refine ⟨a, ns.map V.int, .int k, j, .int k, rfl, rfl, s2, rfl, ?_, by rw [List.getElem?_map, g1]; rfl, beq_self_eq_true k, fun m z hm hz => ?_, q ρ2 _ H2 (x1.trans x2) A2 (.int _)⟩
              · rw [List.all_map]
                exact List.all_eq_true.mpr fun _ _ => rfl
              · rw [List.getElem?_map] at hz
                cases hw : ns[m]? with
                | none => rw [hw] at hz; cases hz
                | some w =>
                  rw [hw] at hz
                  cases hz
                  show (w == k) = false
                  exact beq_eq_false_iff_ne.mpr fun z => g2 m hm (by rw [hw, z])
            · cases e
          · cases e
        · cases e
      · cases e
    · cases e
  · cases e
def fRemove (fo f : AE) : AE := fun ds M => match fo ds M with
  | some (.ref n, M1) => match lstOf M1 (.ref n) with
    | some _ => match f ds M1 with
      | some (.int k, M2) => match M2.mem n with
        | some (.lst xs) => match intsOf xs with
          | some ns => match ns.findIdx? (fun y => decide (y = k)) with
            | some j => some (.non, M2.set n (.lst ((ns.eraseIdx j).map D.int)))
            | none => none
          | none => none
        | _ => none
      | _ => none
    | none => none
  | _ => none
theorem a_remove {o e : Expr} {fo f : AE} {apos cpos : Pos} (ho : PE X o (cE X.K cl fo)) (ha : PE X e (cE X.K cl f))
    (h : ∀ (to : TE) (t : TA), PE X o to → PA X [e] t → PE X (.Call (.Attribute o "remove" apos) [e] [] cpos) (tBM X.K "list" rRemI to t)) (hs : starEach [e] X.env = (false, eval e X.env) :: starEach [] X.env := by rfl) :
    PE X (.Call (.Attribute o "remove" apos) [e] [] cpos) (cE X.K cl (fRemove fo f)) := PE.imp (h _ _ ho (pa_cons ha pa_nil hs)) fun σ H Q h => by
  obtain ⟨ρ, ds, M, d, M', E, A, e, q⟩ := h
  unfold fRemove at e
  split at e
  · next n M1 e1 =>
    split at e
    · next ys hl =>
      split at e
      · next k M2 e2 =>
        split at e
        · next xs hx =>
          split at e
          · next ns hn =>
            split at e
            · next j hj =>
              cases e
              refine goE E A e1 fun ρ1 v1 H1 x1 A1 r1 => ?_
              obtain ⟨a, vs, rfl, s, rs⟩ := lst_at A1 r1 hl
              refine ⟨.inl ⟨rfl, vs, s⟩, goE (E.up x1) A1 e2 fun ρ2 v2 H2 x2 A2 r2 => ?_⟩
              cases r2
              cases r1 with
              | ref hr =>
              have hr := x2.re _ _ hr
              obtain ⟨ws, h1, rs⟩ := A2.at hr hx
              have := ints_are rs hn
              subst this
              obtain ⟨g1, g2⟩ := find_at hj
              have xc : Ext ρ2 H2 ρ2 (upd H2 a (.lst ((ns.eraseIdx j).map V.int))) := A2.ext_write hr hx trivial
              have Ac := A2.write (c' := .lst ((ns.eraseIdx j).map D.int)) (o' := .lst ((ns.eraseIdx j).map V.int)) hr hx trivial trivial ⟨_, upd_same, repsI _⟩
              exact ⟨a, ns, k, j, rfl, rfl, h1, g1, g2, q ρ2 _ _ ((x1.trans x2).trans xc) Ac .non⟩
            · cases e
          · cases e
        · cases e
      · cases e
    · cases e
  · cases e
end
end AL
/-! Dict comprehensions. -/
namespace AL
open PySem PySem.Spec PyProof.Rows L2
section
variable {X : Cx} {cl : Nat → Addr} {K : PySem.W.Frag}
def dcLoop (I : Itr) (g : AG) (t : AT) (fk fv : AE) (n0 : Nat) (ds : DS) : Nat → Nat → AS → Option AS
  | 0, _, _ => none
  | k + 1, i, M => match itAt I M i with
    | none => none
    | some none => some M
    | some (some x) => match g x ds M with
      | none => none
      | some (ds1, M1) => match t ds1 M1 with
        | none => none
        | some (false, M2) => dcLoop I g t fk fv n0 ds k (i + 1) M2
        | some (true, M2) => match fk ds1 M2 with
          | none => none
          | some (y, M3) => match fv ds1 M3 with
            | none => none
            | some (z, M4) => match M4.mem n0, keyD y with
              | some (.dct acc), some kk => if acc.length < big then dcLoop I g t fk fv n0 ds k (i + 1) (M4.set n0 (.dct (putKD acc kk z))) else none
              | _, _ => none
def fDc (fi : AI) (g : AG) (t : AT) (fk fv : AE) (vs : List Nat) : AE := fun ds M => match fi ds M with
  | some (I, M1) => match dcLoop I g t fk fv M1.nx (wipeD ds vs) (fuelOf I) 0 (M1.new (.dct [])) with
    | some M2 => some (.ref M1.nx, M2)
    | none => none
  | none => none
def WDc (K : PySem.W.Frag) (cl : Nat → Addr) (I : Itr) (g : AG) (t : AT) (fk fv : AE) (n0 : Nat) (Dd : Addr) (ds : DS) (ρ0 : Rho) (H0 : Hp) (Q : VK) (i m : Nat) (H : Hp) : Prop :=
  ∃ ρ M M', Ext ρ0 H0 ρ H ∧ Abs K cl ρ H M ∧ ρ n0 = some Dd ∧ dcLoop I g t fk fv n0 ds m i M = some M' ∧ ∀ ρ' H', Ext ρ H ρ' H' → Abs K cl ρ' H' M' → Q (.ref Dd) H'
theorem c_dc {fi : AI} {g : TG} {ga : AG} {t : AT} {fk fv : AE} {vs : List Nat} (hg : CTg K cl vs g ga) (σ : L2.St) (H : Hp) (Q : VK) (h : cE K cl (fDc fi ga t fk fv vs) σ H Q) : tDc (cI K cl fi) g (cT K cl t) (cE K cl fk) (cE K cl fv) vs σ H Q := by
  obtain ⟨ρ, ds, M, d, M', E, A, e, q⟩ := h
  unfold fDc at e
  split at e
  · next I M1 e1 =>
    split at e
    · next M2 e2 =>
      cases e
      refine ⟨ρ, ds, M, I, M1, E, A, e1, fun ρ1 H1 J x1 A1 ok => fun Dd hD => ?_⟩
      have sm : Same H1 (upd H1 Dd (.dK [])) := same_upd hD
      have x2 := A1.ext_new sm Dd
      have A2 : Abs K cl (rhoNew ρ1 M1.nx Dd) (upd H1 Dd (.dK [])) (M1.new (.dct [])) := A1.new sm hD ⟨[], upd_same, trivial⟩
      have Ew := (E.up x1).wipe vs
      refine ⟨WDc K cl I ga t fk fv M1.nx Dd (wipeD ds vs) ρ1 H1 Q, ⟨fuelOf I, rhoNew ρ1 M1.nx Dd, _, _, x2, A2, rhoNew_same, e2, fun ρ3 H3 x3 A3 => ?_⟩, ?_⟩
      · exact q ρ3 _ H3 ((x1.trans x2).trans x3) A3 (.ref (x3.re _ _ rhoNew_same))
      rintro i m H' ⟨ρ3, M3, M4, x3, A3, hr, e3, q3⟩
      cases m with
      | zero => cases e3
      | succ m =>
        simp only [dcLoop] at e3
        split at e3
        · cases e3
        · next e4 =>
          cases e3
          exact .inl ⟨ok.stop ρ3 H' M3 i x3 A3 e4, q3 ρ3 H' (Ext.refl _ _) A3⟩
        · next x e4 =>
          split at e3
          · cases e3
          · next ds5 M5 e5 =>
            obtain ⟨go, yl⟩ := ok.go ρ3 H' M3 i x x3 A3 e4
            refine .inr ⟨go, WDc K cl I ga t fk fv M1.nx Dd (wipeD ds vs) ρ1 H1 Q (i + 1) m, fun H6 w6 => ⟨m, Nat.lt_succ_self m, w6⟩, fun y H6 hy => ?_⟩
            obtain ⟨ρ6, x6, A6, r6⟩ := yl y H6 hy
            refine hg.run ρ6 H6 (L2.wipe σ vs) (L2.wipe σ vs) (wipeD ds vs) M3 y x ds5 M5 _ (Ew.up (x3.trans x6)) r6 e5 wipe_wipe fun σ7 E7 w7 eM => ?_
            subst eM
            refine ⟨w7, ?_⟩
            split at e3
            · cases e3
            · next M8 e8 =>
              refine goT E7 A6 e8 fun ρ9 H9 x9 A9 => ?_
              exact ⟨ρ9, M8, M4, (x3.trans x6).trans x9, A9, x9.re _ _ (x6.re _ _ hr), e3, fun ρa Ha xa Aa => q3 ρa Ha ((x6.trans x9).trans xa) Aa⟩
            · next M8 e8 =>
              refine goT E7 A6 e8 fun ρ9 H9 x9 A9 => ?_
              split at e3
              · cases e3
              · next z Ma ea =>
                refine goE (E7.up x9) A9 ea fun ρb v Hb xb Ab rb => ?_
                split at e3
                · cases e3
                · next z2 Mc ec =>
                  refine goE ((E7.up x9).up xb) Ab ec fun ρc v2 Hc xc2 Ac2 rc2 => ?_
                  split at e3
                  · next acc kk hm hk =>
                    split at e3
                    · next hz =>
                      have hrc := xc2.re _ _ (xb.re _ _ (x9.re _ _ (x6.re _ _ hr)))
                      obtain ⟨ws, h1, rs⟩ := Ac2.at hrc hm
                      have hk' := keyD_rep (rb.up xc2) hk
                      refine ⟨ws, kk, hk', h1, by rw [rs.length]; exact big_lt hz, ?_⟩
                      have xc : Ext ρc Hc ρc (upd Hc Dd (.dK (putK ws kk v2))) := Ac2.ext_write hrc hm trivial
                      have Ac : Abs K cl ρc (upd Hc Dd (.dK (putK ws kk v2))) (Mc.set M1.nx (.dct (putKD acc kk z2))) := Ac2.write hrc hm trivial trivial ⟨_, upd_same, (rs.put rc2).up xc⟩
                      exact ⟨ρc, _, M4, ((((x3.trans x6).trans x9).trans xb).trans xc2).trans xc, Ac, hrc, e3, fun ρd Hd xd Ad => q3 ρd Hd (((((x6.trans x9).trans xb).trans xc2).trans xc).trans xd) Ad⟩
                    · cases e3
                  · cases e3
    · cases e
  · cases e
theorem a_dc {kx vx tg iter : Expr} {ifs : List Expr} {scope : Scope} {own : List (Str × Nat)} {pos : Pos} {fi : AI} {g : TG} {ga : AG} {t : AT} {fk fv : AE} (hc : X.calm = true) (hN : X.N.Nodup) (hi : PI X tg iter (cI X.K cl fi)) (ok : BlkOk X.N X.env.scope scope own)
    (hga : CTg X.K cl (own.map (·.2)) g ga)
    (hg : ∀ (s : Shared) (H : Hp) (C : Addr) (cl' : List (Str × Addr)) (fp : List Addr), PG (X.blk s H scope (compEnvC scope cl' C X.env) fp) tg g) (ht : ∀ (s : Shared) (H : Hp) (C : Addr) (cl' : List (Str × Addr)) (fp : List Addr), PTs (X.blk s H scope (compEnvC scope cl' C X.env) fp) ifs (cT X.K cl t))
    (hk : ∀ (s : Shared) (H : Hp) (C : Addr) (cl' : List (Str × Addr)) (fp : List Addr), PE (X.blk s H scope (compEnvC scope cl' C X.env) fp) kx (cE X.K cl fk))
    (he : ∀ (s : Shared) (H : Hp) (C : Addr) (cl' : List (Str × Addr)) (fp : List Addr), PE (X.blk s H scope (compEnvC scope cl' C X.env) fp) vx (cE X.K cl fv)) (hs : ∀ x, foldedSetIterable iter X.env x = pure x := by intro _; rfl) :
    PE X (.DictComp kx vx [⟨tg, iter, ifs, 0⟩] scope pos) (cE X.K cl (fDc fi ga t fk fv (own.map (·.2)))) := PE.imp (pe_dc hc hN hi ok hg ht hk he hs) (c_dc hga)
end
end AL
/-! A call of a def with keywords, all of them given. -/
namespace AL
open PySem L2
section
variable (P : Program) (w : World) (K : PySem.W.Frag) (mg : Str → Option Value) (base : Heap) (cl : Nat → Addr)
/-- f(e, .., k1 = v, ..): n positional ones, the keywords ks -/
structure CallKOk (x : Str) (ks : List Str) (k n N : Nat) (gD : List D → List D → List D) (F : AF) : Prop where
  ex : ∃ f fd ps gd gV, mg x = some (.ref f) ∧ PySem.W.keepIn K (.ref f) = true ∧ FnOk P w K mg base CX0 k f fd ps (cF K cl N F) ∧ KBn K fd ps n ks gd gV ∧
    ∀ ρ H vs es zs ws, es.length = n → zs.length = ks.length → Reps K ρ H vs es → Reps K ρ H ws zs → (gV vs ws).length = N ∧ Reps K ρ H (gV vs ws) (gD es zs)
end
section
variable {X : Cx} {cl : Nat → Addr} {K : PySem.W.Frag} {x : Str} {k j n N : Nat} {F : AF} {g gk : AA} {p pos : Pos} {e : Expr} {es : List Expr}
def fCallK (n m : Nat) (gD : List D → List D → List D) (F : AF) (g gk : AA) : AE := fun ds M => match g ds M with
  | some (es, M1) => match gk ds M1 with
    | some (zs, M2) => if es.length = n ∧ zs.length = m then F (gD es zs) M2 else none
    | none => none
  | none => none
theorem a_callKO {mm : Nat} {ks : List Str} {kws : List Keyword} {gD : List D → List D → List D} (C : CallKOk X.prog X.w X.K X.mg X.base cl x ks k n N gD F) (hr : Room j X.A) (ha : PA X (e :: es) (cA X.K cl g)) (hkw : PK X kws (cA X.K cl gk)) (hkj : k ≤ j := by decide) (hmm : ks.length = mm := by rfl) (hg : Gl X x := by rfl)
    (hall : (backToKw pos (keywordEach kws X.env)).all (·.1.isSome) = true := by rfl) (hks : (backToKw pos (keywordEach kws X.env)).filterMap (·.1) = ks := by rfl) (hdb : (x == ("__debug__" : Str)) = false := by decide)
    (he : starEach (e :: es) X.env = (false, eval e X.env) :: starEach es X.env := by rfl) (hpl : ((backTo pos (starEach (e :: es) X.env)).any (·.1) || (backToKw pos (keywordEach kws X.env)).any (·.1.isNone)) = false := by rfl) :
    PE X (.Call (.Name x p) (e :: es) kws pos) (cE X.K cl (fCallK n mm gD F g gk)) := by
  subst hmm
  obtain ⟨f, fd, ps, gd, gV, h1, h2, h3, h4, h5⟩ := C.ex
  refine PE.imp (pe_callN h3 (hr.mono hkj) hg h1 h2 h4 pass0 ha hkw hall hks hdb he hpl) fun σ H Q h => ?_
  obtain ⟨ρ, ds, M, d, M', E, A, e, q⟩ := h
  unfold fCallK at e
  split at e
  · next es' M1 e1 =>
    split at e
    · next zs M2 e2 =>
      split at e
      · next hl =>
        refine goA E A e1 fun ρ1 vs H1 x1 A1 r1 => ?_
        refine goA (E.up x1) A1 e2 fun ρ2 ws H2 x2 A2 r2 => ?_
        refine ⟨by rw [r1.length]; exact hl.1, by rw [r2.length]; exact hl.2, ?_⟩
        obtain ⟨g1, g2⟩ := h5 ρ2 H2 vs es' zs ws hl.1 hl.2 (r1.up x2) r2
        exact ⟨ρ2, gD es' zs, M2, d, M', g1, g2, A2, e, fun ρ' v H' x3 A3 r3 => q ρ' v H' ((x1.trans x2).trans x3) A3 r3⟩
      · cases e
    · cases e
  · cases e
end
end AL
/-! A loop over zip of a tuple, a list and a tuple of one length. -/
namespace AL
open PySem PySem.Spec PyProof.Rows L2
theorem drawsEndL {prog : Program} {w : World} {A : Around} (hh : A.handled = none) (it t : Addr) (hne : t ≠ it) (items : Array Value) (i : Nat) (hi : items.size ≤ i) :
    Draws prog w A it [it, t] i (fun j v => items[j]? = some v) (fun j h => h.IsListIter it t j ∧ h.IsList t items ∧ i ≤ j) where
  live := fun _ _ st => let ⟨o, ho, _⟩ := st.1; ⟨o, ho⟩
  frame := fun _ _ _ st hk => ⟨st.1.at fun o e => hk it (by simp) o e, st.2.1.at fun o e => hk t (by simp) o e, st.2.2⟩
  item := fun j s Q E hj st hQ => absurd (Nat.lt_of_lt_of_le hj st.2.2) (Nat.lt_irrefl _)
  done := fun s Q E st hE => wpAny_nextOf_list_end hh st.1 st.2.1 (by simp; omega) hE
def ItzM (K : PySem.W.Frag) (a b c : Addr) : It :=
  ⟨fun i H => ∃ (xs ys zs : List V) (x y z : V), SqT K H a xs ∧ SqL K H b ys ∧ SqT K H c zs ∧ xs[i]? = some x ∧ ys[i]? = some y ∧ zs[i]? = some z,
    fun i H v H' => ∃ T x y z, v = .ref T ∧ H T = none ∧ H' = upd H T (.tup [x, y, z]) ∧ (∀ xs, SqT K H a xs → xs[i]? = some x) ∧ (∀ ys, SqL K H b ys → ys[i]? = some y) ∧ ∀ zs, SqT K H c zs → zs[i]? = some z,
    fun i H => ∃ xs ys zs : List V, SqT K H a xs ∧ SqL K H b ys ∧ SqT K H c zs ∧ ys.length = xs.length ∧ zs.length = xs.length ∧ xs.length ≤ i⟩
theorem turn_zipM {P : Program} {w : World} {K : PySem.W.Frag} {elts : List Expr} {kk : Nat} {tpos : Pos} {a b c z TI TO i1 i2 i3 : Addr} (Sp : ZipSep3 z TI TO i1 i2 i3 [i1, a] [i2, b] [i3, c]) (na : a ≠ i1) (nb : b ≠ i2) (nc : c ≠ i3) :
    Turn P w K (.Tuple elts kk tpos) (ItzM K a b c) [z, TI, TO, i1, i2, i3] z (fun i h => IsZip h z TI TO .none ∧ IsTupOf3 h TI (.ref i1) (.ref i2) (.ref i3) ∧ (∃ x y u, IsTupOf3 h TO x y u) ∧ h.IsTupleIter i1 a i ∧ h.IsListIter i2 b i ∧ h.IsTupleIter i3 c i) where
  mem := by simp
  obj := fun i h st d hd => by
    obtain ⟨hz, hTI, ⟨x, y, u, hTO⟩, ⟨o1, e1, _, d1⟩, ⟨o2, e2, _, d2⟩, ⟨o3, e3, _, d3⟩⟩ := st
    have e' : d = z ∨ d = TI ∨ d = TO ∨ d = i1 ∨ d = i2 ∨ d = i3 := by simpa using hd
    rcases e' with q | q | q | q | q | q
    · rw [q]; exact ⟨_, hz, fun v q => nomatch q⟩
    · rw [q]; exact ⟨_, hTI, fun v q => nomatch q⟩
    · rw [q]; exact ⟨_, hTO, fun v q => nomatch q⟩
    · rw [q]; exact ⟨o1, e1, fun v q => by rw [d1] at q; cases q⟩
    · rw [q]; exact ⟨o2, e2, fun v q => by rw [d2] at q; cases q⟩
    · rw [q]; exact ⟨o3, e3, fun v q => by rw [d3] at q; cases q⟩
  keep := fun i h h' st k => by
    obtain ⟨hz, hTI, ⟨x, y, u, hTO⟩, h1, h2, h3⟩ := st
    exact ⟨k z (by simp) _ hz, k TI (by simp) _ hTI, ⟨x, y, u, k TO (by simp) _ hTO⟩, h1.at fun o q => k i1 (by simp) o q, h2.at fun o q => k i2 (by simp) o q, h3.at fun o q => k i3 (by simp) o q⟩
  item := by
    intro X hP hw hK hc i pins s σ H E I hf st hg
    subst hP hw hK
    obtain ⟨hz, hTI, ⟨x0, y0, u0, hTO⟩, h1, h2, h3⟩ := st
    obtain ⟨xs, ys, zs, x, y, zz, hqx, hqy, hqz, hx, hy, hzz⟩ := hg
    obtain ⟨t1, rv1, p1, _⟩ := I.tuple hqx
    obtain ⟨t2, rv2, p2, _⟩ := I.list hqy
    obtain ⟨t3, rv3, p3, _⟩ := I.tuple hqz
    obtain ⟨u1, w1, r1⟩ := rv1.get hx
    obtain ⟨u2, w2, r2⟩ := rv2.get hy
    obtain ⟨u3, w3, r3⟩ := rv3.get hzz
    have hzl : z < s.heap.objs.size := Heap.lt_size hz
    have hh : X.A.in1.handled = none := I.ok.hd hc
    have D1 := Draws.tuple (prog := X.prog) (w := X.w) (A := X.A.in1) hh i1 a na t1.toArray
    have D2 := Draws.list (prog := X.prog) (w := X.w) (A := X.A.in1) hh i2 b nb t2.toArray
    have D3 := Draws.tuple (prog := X.prog) (w := X.w) (A := X.A.in1) hh i3 c nc t3.toArray
    have z1 : i < t1.toArray.size := by have := (List.getElem?_eq_some_iff.mp w1).1; simpa using this
    have z2 : i < t2.toArray.size := by have := (List.getElem?_eq_some_iff.mp w2).1; simpa using this
    have z3 : i < t3.toArray.size := by have := (List.getElem?_eq_some_iff.mp w3).1; simpa using this
    have g1 : s.heap.IsTuple a t1.toArray := p1
    have g2 : s.heap.IsList b t2.toArray := p2.isList
    have g3 : s.heap.IsTuple c t3.toArray := p3
    refine wpAny_pyNext_zipD3_item Sp D1 D2 D3 hz hTI hTO ⟨h1, g1⟩ ⟨h2, g2⟩ ⟨h3, g3⟩ z1 z2 z3 fun x1 x2 x3 h' tk y1 y2 y3 b1 b2 d1 d2 d3 b5 b6 hk => ?_
    have q1 : x1 = u1 := by
      have q : t1[i]? = some x1 := by simpa using y1
      rw [w1] at q; exact (Option.some.inj q).symm
    have q2 : x2 = u2 := by
      have q : t2[i]? = some x2 := by simpa using y2
      rw [w2] at q; exact (Option.some.inj q).symm
    have q3 : x3 = u3 := by
      have q : t3[i]? = some x3 := by simpa using y3
      rw [w3] at q; exact (Option.some.inj q).symm
    subst q1 q2 q3
    refine ⟨_, rfl, wpAny_letOwnedTupleGo_zip (s := { s with heap := h', toks := tk }) b1 fun h'' z'' sb => ?_⟩
    have hT2 : h''.get? s.heap.objs.size = some { cls := .type "tuple", data := .seq #[x1, x2, x3] } := (sb.2 _ (Nat.ne_of_gt hzl)).trans b5
    have new : ObjOk X.prog X.w (upd H s.heap.objs.size (.tup [x, y, zz])) h'' s.heap.objs.size (.tup [x, y, zz]) :=
      ⟨by show 3 ≤ sizeLine; decide, [x1, x2, x3], .cons r1 (.cons r2 (.cons r3 .nil)), ⟨_, hT2, rfl, _, rfl⟩⟩
    have I1 : Inv X pins σ (upd H s.heap.objs.size (.tup [x, y, zz])) { s with heap := h'', toks := tk } :=
      I.turnedNew (ch := [z, TI, TO, i1, i2, i3]) (fun d o hb q => (sb.2 d (fun q' => hb (by simp [q']))).trans (hk d o (fun q' => hb (by simp [q'])) (fun q' => hb (by simp [q'])) (fun q' => hb (by simp [q'])) (fun q' => hb (by simp [q'])) (fun q' => hb (by simp [q'])) q)) hf (Nat.le_refl _) new
    refine ⟨.ref s.heap.objs.size, _, I1, rfl, ⟨_, x, y, zz, rfl, I.hok.fresh (Nat.le_refl _), rfl, fun l hl => by rw [I.tuple_inj hl hqx]; exact hx, fun l hl => by rw [I.list_inj hl hqy]; exact hy, fun l hl => by rw [I.tuple_inj hl hqz]; exact hzz⟩, ⟨z'', ?_, ⟨x1, x2, x3, ?_⟩, ?_, ?_, ?_⟩, fun d hcm => ?_⟩
    · exact (sb.2 _ Sp.TIz).trans (hk _ _ Sp.TIz Sp.TITO Sp.TIi1 Sp.TIi2 Sp.TIi3 hTI)
    · exact (sb.2 _ Sp.TOz).trans b2
    · exact d1.1.at fun o q => (sb.2 _ Sp.zi1.symm).trans q
    · exact d2.1.at fun o q => (sb.2 _ Sp.zi2.symm).trans q
    · exact d3.1.at fun o q => (sb.2 _ Sp.zi3.symm).trans q
    · have hlt : d < s.heap.objs.size := by
        have e' : d = z ∨ d = TI ∨ d = TO ∨ d = i1 ∨ d = i2 ∨ d = i3 := by simpa using hcm
        rcases e' with q | q | q | q | q | q
        · rw [q]; exact hzl
        · rw [q]; exact Heap.lt_size hTI
        · rw [q]; exact Heap.lt_size hTO
        · rw [q]; obtain ⟨_, e1, _⟩ := h1; exact Heap.lt_size e1
        · rw [q]; obtain ⟨_, e2, _⟩ := h2; exact Heap.lt_size e2
        · rw [q]; obtain ⟨_, e3, _⟩ := h3; exact Heap.lt_size e3
      rw [upd_ne (Nat.ne_of_lt hlt)]
      exact (hf d hcm).1
  done := by
    intro X hP hw hK hc i pins s σ H E I hf st hg
    subst hP hw hK
    obtain ⟨hz, hTI, ⟨x0, y0, u0, hTO⟩, h1, h2, h3⟩ := st
    obtain ⟨xs, ys, zs, hqx, hqy, hqz, e1, e2, hend⟩ := hg
    obtain ⟨t1, rv1, p1, _⟩ := I.tuple hqx
    obtain ⟨t2, rv2, p2, _⟩ := I.list hqy
    obtain ⟨t3, rv3, p3, _⟩ := I.tuple hqz
    have l1 := rv1.length
    have l2 := rv2.length
    have l3 := rv3.length
    have hh : X.A.in1.handled = none := I.ok.hd hc
    have D1 := drawsEnd (prog := X.prog) (w := X.w) (A := X.A.in1) hh i1 a na t1.toArray i (by simp; omega)
    have D2 := drawsEndL (prog := X.prog) (w := X.w) (A := X.A.in1) hh i2 b nb t2.toArray i (by simp; omega)
    have D3 := drawsEnd (prog := X.prog) (w := X.w) (A := X.A.in1) hh i3 c nc t3.toArray i (by simp; omega)
    have g1 : s.heap.IsTuple a t1.toArray := p1
    have g2 : s.heap.IsList b t2.toArray := p2.isList
    have g3 : s.heap.IsTuple c t3.toArray := p3
    exact wpAny_pyNext_zipD3_end Sp D1 D2 D3 hz hTI hTO ⟨h1, g1, Nat.le_refl _⟩ ⟨h2, g2, Nat.le_refl _⟩ ⟨h3, g3, Nat.le_refl _⟩ (Nat.le_refl _) (Nat.le_refl _) (Nat.le_refl _) (.inl rfl) fun h' tk hk => ⟨rfl, I.turnedL (ch := [z, TI, TO, i1, i2, i3]) (fun d o hb q =>
      hk d o (fun q' => hb (by simp [q'])) (fun q' => hb (by simp [q'])) (fun q' => hb (by simp [q'])) (fun q' => hb (by simp [q'])) (fun q' => hb (by simp [q'])) q) hf⟩
  self := fun A i s Q E st h => wpAny_pyIter_zip st.1 h
end AL
namespace AL
open PySem PySem.Spec PyProof.Rows L2
def iZipM (K : PySem.W.Frag) (ta : TA) : TI := fun σ H R => ta σ H fun vs H1 => ∃ (a b c : Addr) (xs ys zs : List V), vs = [.ref a, .ref b, .ref c] ∧ SqT K H1 a xs ∧ SqL K H1 b ys ∧ SqT K H1 c zs ∧ R (ItzM K a b c) H1
theorem pi_zipM {X : Cx} {a b c : Expr} {ta : TA} {p pos tpos : Pos} {elts : List Expr} {kk : Nat} (hg : Gl X "zip") (hm : X.mg "zip" = none) (ha : PA X [a, b, c] ta)
    (hs : starEach [a, b, c] X.env = (false, eval a X.env) :: starEach [b, c] X.env) (hpl : (backTo pos (starEach [b, c] X.env)).any (·.1) = false)
    (hcz : eval (.Call (.Name "zip" p) [a, b, c] [] pos) X.env = (do callWith pos (← eval (.Name "zip" p) X.env) [] (backTo pos (starEach [a, b, c] X.env)) (backToKw pos (keywordEach [] X.env)))) :
    PI X (.Tuple elts kk tpos) (.Call (.Name "zip" p) [a, b, c] [] pos) (iZipM X.K ta) := by
  refine ⟨fun pins s σ H R I h => ?_⟩
  refine Call_ (ld_blt I hg hm PyProof.Rows.boot_zip (PyProof.Rows.callWith_type1 (thn (ha.run pos pins s σ H _ I h) fun us s1 ⟨vs, H1, I1, r1, q1⟩ => ?_) hs hpl)) hcz
  obtain ⟨a1, a2, a3, xs, ys, zs, rfl, k1, k2, k3, q⟩ := q1
  cases r1 with
  | cons r ra =>
    cases ra with
    | cons r' rb =>
      cases rb with
      | cons r'' rc =>
        cases rc
        cases r
        cases r'
        cases r''
        obtain ⟨t1, rv1, p1, z1⟩ := I1.tuple k1
        obtain ⟨t2, rv2, p2, z2⟩ := I1.list k2
        obtain ⟨t3, rv3, p3, z3⟩ := I1.tuple k3
        have g1 : s1.heap.IsTuple a1 t1.toArray := p1
        have g2 : s1.heap.IsList a2 t2.toArray := p2.isList
        have g3 : s1.heap.IsTuple a3 t3.toArray := p3
        have b1 : (a1 : Nat) < s1.heap.objs.size := let ⟨_, q, _⟩ := p1; Heap.lt_size q
        have b2 : (a2 : Nat) < s1.heap.objs.size := let ⟨_, q, _⟩ := p2.isList; Heap.lt_size q
        have b3 : (a3 : Nat) < s1.heap.objs.size := let ⟨_, q, _⟩ := p3; Heap.lt_size q
        refine zip_begins3 (begins_tuple a1 t1.toArray) (begins_list a2 t2.toArray) (begins_tuple a3 t3.toArray) g1 g2 g3 fun h' hz hTI hTO y1 y2 y3 hsz hk => wpAny_pyIter_zip hz ?_
        have I2 : Inv X pins σ H1 { s1 with heap := h' } := I1.kept (t' := s1.toks) hk
        have na : (a1 : Nat) ≠ s1.heap.objs.size := Nat.ne_of_lt b1
        have nb : (a2 : Nat) ≠ s1.heap.objs.size + 1 := lt_ne b2 1
        have nc : (a3 : Nat) ≠ s1.heap.objs.size + 2 := lt_ne b3 2
        refine ⟨s1.heap.objs.size + 5, [s1.heap.objs.size + 5, s1.heap.objs.size + 3, s1.heap.objs.size + 4, s1.heap.objs.size, s1.heap.objs.size + 1, s1.heap.objs.size + 2], _, _, H1, rfl, I2, turn_zipM (sep3 b1 b2 b3) na nb nc, ⟨hz, hTI, ⟨_, _, _, hTO⟩, ⟨_, y1, rfl, rfl⟩, ⟨_, y2, rfl, rfl⟩, ⟨_, y3, rfl, rfl⟩⟩, fun d hd => ?_, q⟩
        have hle : s1.heap.objs.size ≤ (d : Nat) := by
          have e' : d = s1.heap.objs.size + 5 ∨ d = s1.heap.objs.size + 3 ∨ d = s1.heap.objs.size + 4 ∨ d = s1.heap.objs.size ∨ d = s1.heap.objs.size + 1 ∨ d = s1.heap.objs.size + 2 := by simpa using hd
          rcases e' with z | z | z | z | z | z
          · rw [z]; exact Nat.le_add_right _ _
          · rw [z]; exact Nat.le_add_right _ _
          · rw [z]; exact Nat.le_add_right _ _
          · rw [z]; exact Nat.le_refl _
          · rw [z]; exact Nat.le_add_right _ _
          · rw [z]; exact Nat.le_add_right _ _
        exact I1.fpOk hle (I1.hok.fresh hle)
section
variable {X : Cx} {cl : Nat → Addr} {K : PySem.W.Frag}
theorem it_zipM {a b c : Addr} {vs us : List V} {xs zs : List D} {n : Nat} {ρ : Rho} {H : Hp} (s1 : SqT K H a vs) (r1 : Reps K ρ H vs xs) (hr : ρ n = some b) (s3 : SqT K H c us) (r3 : Reps K ρ H us zs) :
    ItOk K cl (ItzM K a b c) (.zipM xs n zs) ρ H where
  stop := fun ρ1 H1 M i x A e => by
    simp only [itAt] at e
    split at e
    · next ys hy =>
      split at e
      · next hl =>
        have e := Option.some.inj e
        obtain ⟨b', ws, hb, s2, r2⟩ := lst_at A (Rep.ref (x.re _ _ hr)) hy
        cases hb
        refine ⟨vs, ws, us, x.sqT s1, s2, x.sqT s3, by rw [r1.length, r2.length]; exact hl.1, by rw [r1.length, r3.length]; exact hl.2, ?_⟩
        rw [r1.length]
        cases h1 : xs[i]? with
        | none => exact List.getElem?_eq_none_iff.mp h1
        | some x1 =>
          have hi := (List.getElem?_eq_some_iff.mp h1).1
          rw [h1, List.getElem?_eq_getElem (by omega : i < ys.length), List.getElem?_eq_getElem (by omega : i < zs.length)] at e
          cases e
      · cases e
    · cases e
  go := fun ρ1 H1 M i d x A e => by
    simp only [itAt] at e
    split at e
    · next ys hy =>
      split at e
      · next hl =>
        have e := Option.some.inj e
        obtain ⟨b', ws, hb, s2, r2⟩ := lst_at A (Rep.ref (x.re _ _ hr)) hy
        cases hb
        split at e
        · next x1 y1 z1 g1 g2 g3 =>
          cases e
          obtain ⟨v, h1, h2⟩ := r1.get g1
          obtain ⟨u, h3, h4⟩ := r2.get g2
          obtain ⟨t, h5, h6⟩ := r3.get g3
          refine ⟨⟨vs, ws, us, v, u, t, x.sqT s1, s2, x.sqT s3, h1, h3, h5⟩, fun y H' hy => ?_⟩
          obtain ⟨T, v', u', t', rfl, hT, rfl, q1, q2, q3⟩ := hy
          have := q1 vs (x.sqT s1)
          rw [h1] at this
          cases this
          have := q2 ws s2
          rw [h3] at this
          cases this
          have := q3 us (x.sqT s3)
          rw [h5] at this
          cases this
          have sm : Same H1 (upd H1 T (.tup [v, u, t])) := same_upd hT
          exact ⟨ρ1, Ext.same sm, A.same sm, .tup (.inl (.inl upd_same)) (.cons ((h2.up x).up (Ext.same sm)) (.cons (h4.up (Ext.same sm)) (.cons ((h6.up x).up (Ext.same sm)) .nil)))⟩
        · cases e
      · cases e
    · cases e
/-- zip(xs, ys, zs) of tuples, or of a tuple, a list and a tuple -/
def fZipMI (g : AA) : AI := fun ds M => match g ds M with
  | some ([.tup xs, .ref n, .tup zs], M1) => match lstOf M1 (.ref n) with
    | some _ => some (.zipM xs n zs, M1)
    | none => none
  | _ => none
theorem i_zipM {a b c : Expr} {g : AA} {p pos tpos : Pos} {elts : List Expr} {kk : Nat} (hm : X.mg "zip" = none) (ha : PA X [a, b, c] (cA X.K cl g)) (hg : Gl X "zip" := by rfl)
    (hs : starEach [a, b, c] X.env = (false, eval a X.env) :: starEach [b, c] X.env := by rfl) (hpl : (backTo pos (starEach [b, c] X.env)).any (·.1) = false := by rfl)
    (hcz : eval (.Call (.Name "zip" p) [a, b, c] [] pos) X.env = (do callWith pos (← eval (.Name "zip" p) X.env) [] (backTo pos (starEach [a, b, c] X.env)) (backToKw pos (keywordEach [] X.env))) := by rfl) :
    PI X (.Tuple elts kk tpos) (.Call (.Name "zip" p) [a, b, c] [] pos) (cI X.K cl (fZipMI g)) := PI.imp (pi_zipM hg hm ha hs hpl hcz) fun σ H R h => by
  obtain ⟨ρ, ds, M, I, M', E, A, e, q⟩ := h
  unfold fZipMI at e
  split at e
  · next xs n zs M1 e1 =>
    split at e
    · next ys hy =>
      cases e
      refine goA E A e1 fun ρ1 vs H1 x1 A1 r1 => ?_
      cases r1 with
      | cons r1 ra =>
        cases ra with
        | cons r2 rb =>
          cases rb with
          | cons r3 rc =>
            cases rc
            obtain ⟨b', ws, rfl, s2, q2⟩ := lst_at A1 r2 hy
            cases r2 with
            | ref hr =>
              cases r1 with
              | tup s1 q1 =>
                cases r3 with
                | tup s3 q3 => exact ⟨_, _, _, _, _, _, rfl, s1, s2, s3, q ρ1 H1 _ x1 A1 (it_zipM s1 q1 hr s3 q3)⟩
    · cases e
  · cases e
end
end AL
/-! A range kept in a name; min of a list of pairs. -/
namespace AL
open PySem PySem.Spec PyProof.Rows L2
section
variable {X : Cx} {cl : Nat → Addr} {K : PySem.W.Frag}
def oRng2 : OpN := fun es M => match es with
  | [.int i, .int j] => some (.ref M.nx, M.new (.rng i j))
  | _ => none
theorem caa_rng2 : CaA K cl (fun vs H Q => ∃ i j, vs = [V.int i, V.int j] ∧ ∀ p, H p = none → Q (.ref p) (upd H p (.rng i j))) oRng2 := by
  intro ρ H M vs ds z M' Q rs A e q
  unfold oRng2 at e
  split at e
  · next i j =>
    cases e
    obtain ⟨v, w, rfl, r1, r2⟩ := reps2 rs
    cases r1; cases r2
    refine ⟨i, j, rfl, fun p hp => ?_⟩
    have sm : Same H (upd H p (.rng i j)) := same_upd hp
    exact q _ _ _ (A.ext_new sm p) (A.new sm hp (show CellOk K cl _ _ (.rng i j) p from upd_same)) (.ref rhoNew_same)
  · cases e
theorem a_rng2 {p pos : Pos} {a b : Expr} {g : AA} (hm : X.mg "range" = none) (ha : PA X [a, b] (cA X.K cl g)) (hg : Gl X "range" := by rfl) (hs : starEach [a, b] X.env = (false, eval a X.env) :: starEach [b] X.env := by rfl) (hpl : (backTo pos (starEach [b] X.env)).any (·.1) = false := by rfl) :
    PE X (.Call (.Name "range" p) [a, b] [] pos) (cE X.K cl (fCB oRng2 g)) := a_cty cr_range2 caa_rng2 hm (by decide +kernel) ha hg (by decide) (by decide) hs hpl
/-- a range walked -/
theorem pi_rngV {tg e : Expr} {te : TE} (he : PE X e te) : PI X tg e (fun σ H R => te σ H fun x H1 => ∃ a lo hi, x = .ref a ∧ H1 a = some (.rng lo hi) ∧ (-(2 ^ 62) ≤ lo ∧ lo < 2 ^ 62 ∧ -(2 ^ 62) ≤ hi ∧ hi < 2 ^ 62) ∧ R (L2.Itr lo (hi - lo).toNat) H1) := by
  refine ⟨fun pins s σ H R I h => thn (he.run pins s σ H _ I h) fun u s1 ⟨x, H1, I1, rx, a, lo, hi, ex, hH, ⟨h1, h2, h3, h4⟩, q⟩ => ?_⟩
  subst ex
  obtain rfl : u = Value.ref a := rx
  obtain ⟨t, u, v, hr⟩ := I1.hok a _ hH
  refine wpAny_pyIter_range hr (small_one h1 h2 h3 h4) ?_
  refine pi_one I1 (tk := s1.toks) _ (turn_range _ lo (hi - lo).toNat) ?_ q
  have e1 : lo + ((0 : Nat) : Int) * 1 = lo := by simp
  have e2 : (((hi - lo).toNat : Nat) : Int) - ((0 : Nat) : Int) = Builtin.Range.rangeSize lo hi 1 := by rw [rangeSize_one]; split <;> omega
  show IsRangeIter _ _ (lo + ((0 : Nat) : Int) * 1) ((((hi - lo).toNat : Nat) : Int) - ((0 : Nat) : Int)) 1
  rw [e1, e2]
  exact Heap.get?_push_size _ rfl
def fItRng (f : AE) : AI := fun ds M => match f ds M with
  | some (.ref n, M1) => match M1.mem n with
    | some (.rng i j) => if rlim i ∧ rlim j then some (.fix (rngD i 1 (j - i).toNat), M1) else none
    | _ => none
  | _ => none
theorem i_rng {tg e : Expr} {f : AE} (he : PE X e (cE X.K cl f)) : PI X tg e (cI X.K cl (fItRng f)) := PI.imp (pi_rngV he) fun σ H R h => by
  obtain ⟨ρ, ds, M, I, M', E, A, e, q⟩ := h
  unfold fItRng at e
  split at e
  · next n M1 e1 =>
    split at e
    · next i j hm =>
      split at e
      · next hl =>
        cases e
        refine goE E A e1 fun ρ1 v1 H1 x1 A1 r1 => ?_
        cases r1 with
        | @ref a _ hr =>
        have hc : H1 a = some (.rng i j) := A1.at hr hm
        exact ⟨a, i, j, rfl, hc, ⟨hl.1.1, hl.1.2, hl.2.1, hl.2.2⟩, q ρ1 H1 _ x1 A1 it_rng⟩
      · cases e
    · cases e
  · cases e
/-! ### min of pairs -/
theorem vals_back_get : ∀ (vs : List V) (us : List Value) (i : Nat) (u : Value), Vals vs us → us[i]? = some u → ∃ v, vs[i]? = some v ∧ RelV v u
  | _, [], i, u, r, e => by cases e
  | [], _ :: _, i, u, r, e => by cases r
  | v0 :: vs, u0 :: us, 0, u, r, e => by
    cases r with
    | cons a b => cases e; exact ⟨_, rfl, a⟩
  | v0 :: vs, u0 :: us, i + 1, u, r, e => by
    cases r with
    | cons a b => exact vals_back_get vs us i u b e
theorem dpAll_get {H : Hp} : ∀ (vs : List V) (ds : List PyData) (i : Nat) (v : V), DpAll K H vs ds → vs[i]? = some v → ∃ d, ds[i]? = some d ∧ Dp K H v d
  | [], _, i, v, h, e => by cases e
  | v0 :: vs, [], i, v, h, e => by cases h
  | v0 :: vs, d0 :: ds, 0, v, h, e => by
    cases h with
    | cons a b => cases e; exact ⟨_, rfl, a⟩
  | v0 :: vs, d0 :: ds, i + 1, v, h, e => by
    cases h with
    | cons a b => exact dpAll_get vs ds i v b e
def rMinP (K : PySem.W.Frag) : List V → Hp → VK → Prop := fun vs H Q => ∃ (a : Addr) (ys : List V) (d0 : PyData) (dr : List PyData), vs = [.ref a] ∧ SqL K H a ys ∧ DpAll K H ys (d0 :: dr) ∧ PySem.W.AlikeAll (d0 :: dr) ∧ PyData.depthAll (d0 :: dr) ≤ 60 ∧
  ∀ (i : Nat) (y : V), ys[i]? = some y → (d0 :: dr)[i]? = some (PySem.W.minD d0 dr) → Q y H
theorem cr_minP (hc : X.calm = true) (hu : X.A.units + 66 < cLine) : CallR X (.builtin "min") (rMinP X.K) := by
  intro pins s σ H vs us Q I r h
  obtain ⟨a, ys, d0, dr, rfl, hs, hd, ha, hz, q⟩ := h
  rw [Vals.ref1 r]
  obtain ⟨its, rv, hl, _⟩ := I.list hs
  obtain ⟨as, hr⟩ := Dp.readsAll I _ _ _ hd rv
  refine PySem.W.min_list_data (I.ok.hd hc) hl.isList (x := d0) (xs := dr) (as := as) (by simpa using hr) ha (by omega) fun i v h' tk bs hv hrd hk => ?_
  have hv' : its[i]? = some v := by simpa using hv
  obtain ⟨y, hy, ry⟩ := vals_back_get _ _ _ _ rv hv'
  obtain ⟨d, g1, g2⟩ := dpAll_get _ _ _ _ hd hy
  obtain ⟨cs, g3⟩ := Dp.reads I d y v g2 ry
  have g4 := PySem.W.reads_keeps hk g3
  have e : PySem.W.minD d0 dr = d := (hrd.unique _ _ g4).1
  exact ⟨y, H, I.kept hk, ry, q i y hy (by rw [g1, e])⟩
def prI : D → Option PyData
  | .tup [.int a, .int b] => some (.tuple [.int a, .int b])
  | _ => none
def prsI : List D → Option (List PyData)
  | [] => some []
  | d :: ds => match prI d, prsI ds with
    | some x, some xs => some (x :: xs)
    | _, _ => none
theorem prI_dp {ρ : Rho} {H : Hp} {v : V} {d : D} {x : PyData} (r : Rep K ρ H v d) (e : prI d = some x) : Dp K H v x ∧ ∃ a b, d = D.tup [.int a, .int b] ∧ x = PyData.tuple [.int a, .int b] := by
  unfold prI at e
  split at e
  · next a b =>
    cases e
    cases r with
    | tup s rs =>
      obtain ⟨v1, v2, rfl, r1, r2⟩ := reps2 rs
      cases r1; cases r2
      exact ⟨.tup s (.cons (.int a) (.cons (.int b) .nil)), a, b, rfl, rfl⟩
  · cases e
theorem prsI_dp {ρ : Rho} {H : Hp} : ∀ {ds : List D} {vs : List V} {xs : List PyData}, Reps K ρ H vs ds → prsI ds = some xs → DpAll K H vs xs ∧ (∀ x ∈ xs, ∃ a b, x = PyData.tuple [.int a, .int b]) ∧ ∀ (i : Nat) (d : D), ds[i]? = some d → ∃ a b, d = D.tup [.int a, .int b] ∧ xs[i]? = some (PyData.tuple [.int a, .int b])
  | [], _, _, r, e => by
    cases r; cases e
    refine ⟨.nil, ?_, ?_⟩
    · intro x h; cases h
    · intro i d h; cases h
  | d :: ds, _, _, r, e => by
    unfold prsI at e
    split at e
    · next x xs e1 e2 =>
      cases e
      cases r with
      | cons r1 r2 =>
        obtain ⟨h1, a, b, rfl, rfl⟩ := prI_dp r1 e1
        obtain ⟨g1, g2, g3⟩ := prsI_dp r2 e2
        refine ⟨.cons h1 g1, fun x hx => ?_, fun i d hd => ?_⟩
        · rcases List.mem_cons.mp hx with z | z
          · exact ⟨a, b, z⟩
          · exact g2 x z
        · cases i with
          | zero => cases hd; exact ⟨a, b, rfl, rfl⟩
          | succ i => exact g3 i d hd
    · cases e
theorem depth_pairs : ∀ {xs : List PyData}, (∀ x ∈ xs, ∃ a b, x = PyData.tuple [.int a, .int b]) → PyData.depthAll xs ≤ 60
  | [], _ => Nat.zero_le _
  | x :: xs, h => by
    obtain ⟨a, b, rfl⟩ := h x List.mem_cons_self
    have ih := depth_pairs (xs := xs) fun y hy => h y (List.mem_cons_of_mem _ hy)
    have e : PyData.depthAll (.tuple [.int a, .int b] :: xs) = max 1 (PyData.depthAll xs) := by simp [PyData.depthAll, PyData.depth]
    rw [e]
    exact Nat.max_le.mpr ⟨by decide, ih⟩
def oMinP : OpN := fun es M => match es with
  | [d] => match lstOf M d with
    | some xs => match prsI xs with
      | some (d0 :: dr) => match PySem.W.minD d0 dr with
        | .tuple [.int a, .int b] => some (.tup [.int a, .int b], M)
        | _ => none
      | _ => none
    | none => none
  | _ => none
theorem caa_minP : CaA K cl (rMinP K) oMinP := by
  intro ρ H M vs ds z M' Q rs A e q
  unfold oMinP at e
  split at e
  · next d =>
    split at e
    · next xs hx =>
      split at e
      · next d0 dr hp =>
        split at e
        · next a b hm =>
          cases e
          cases rs with
          | cons r1 r2 =>
            cases r2
            obtain ⟨l, us, rfl, s, rr⟩ := lst_at A r1 hx
            obtain ⟨g1, g2, g3⟩ := prsI_dp rr hp
            refine ⟨l, us, d0, dr, rfl, s, g1, ⟨fun x hx y hy => ?_, fun x hx => ?_⟩, depth_pairs g2, fun i y hy hi => ?_⟩
            · obtain ⟨a1, b1, rfl⟩ := g2 x hx
              obtain ⟨a2, b2, rfl⟩ := g2 y hy
              simp [PySem.W.alike, PySem.W.alikeAll]
            · obtain ⟨a1, b1, rfl⟩ := g2 x hx
              exact fun z => nomatch z
            · have hl : i < xs.length := by rw [← rr.length]; exact (List.getElem?_eq_some_iff.mp hy).1
              obtain ⟨y', h1, h2⟩ := rr.get (List.getElem?_eq_getElem hl)
              rw [hy] at h1
              cases h1
              obtain ⟨a2, b2, e1, e2⟩ := g3 i _ (List.getElem?_eq_getElem hl)
              rw [e2, hm] at hi
              cases hi
              rw [e1] at h2
              exact q ρ _ H (Ext.refl _ _) A h2
        · cases e
      · cases e
    · cases e
  · cases e
end
end AL
/-! {**d, k: v}. -/
namespace AL
open PySem PySem.Spec PyProof.Rows L2
section
variable {prog : Program} {w : World} {A : Around} {E : Value → Shared → Prop} {s : Shared}
theorem dictPut_pairs {d : Addr} {kvs : List (Key × Value)} {k : Key} {key v : Value} {Q : Unit → Shared → Prop} (hkey : (mixKind prog w).is k key = true) (hm : s.heap.DictOf (mixKind prog w) d kvs)
    (hQ : ∀ h', h'.DictOf (mixKind prog w) d (stored kvs k v) → Heap.SameBut d s.heap h' → Q () { s with heap := h' }) (hsz : kvs.length ≤ sizeLine) :
    wpAny (model prog w) A (dictPut d ((mixKind prog w).hash k) key v) Q E s := by
  obtain ⟨o, es, ep, ho, hc, hd, hk, hp, hn⟩ := hm
  have hes : es.size ≤ sizeLine := by
    have e1 := hp.length
    have e2 : es.toList.length = es.size := by simp
    omega
  unfold dictPut
  refine wpAny_bind (wpAny_dictFind_of hkey ho hd hk ?_)
  have hidx : (es.findIdx? fun e => (mixKind prog w).is k e.key) = kvs.findIdx? fun kv => decide (kv.1 = k) := by
    rw [← hp.findIdx k]; obtain ⟨l⟩ := es; simp
  cases hi : es.findIdx? fun e => (mixKind prog w).is k e.key with
  | some i =>
    refine wpAny_updateDict ho hd (hQ _ ⟨_, _, ep, Heap.get?_update_self _ ho (Obj.isFreed_of_dict (Obj.data_mapDict hd _)),
      hc.mapDict _, Obj.data_mapDict hd _, hk.modify _ _, ?_, ?_⟩ (Heap.SameBut.update ..))
    · rw [stored, if_pos (any_of_findIdx_some (hidx ▸ hi))]
      have hl : (es.toList.findIdx? fun e => (mixKind prog w).is k e.key) = some i := by rw [← hi]; obtain ⟨l⟩ := es; simp
      have := hp.modify hn hl v
      obtain ⟨l⟩ := es
      simpa using this
    · rw [stored, if_pos (any_of_findIdx_some (hidx ▸ hi)), keys_map_store]; exact hn
  | none =>
    have hnot : k ∉ kvs.map (·.1) := not_mem_of_findIdx_none (hidx ▸ hi)
    have hany : ¬ (kvs.any fun kv => decide (kv.1 = k)) = true := by
      rw [List.any_eq_true]; rintro ⟨kv, hkv, he⟩
      exact hnot (List.mem_map.mpr ⟨kv, hkv, of_decide_eq_true he⟩)
    refine wpAny_updateDictKeys (hz := hes) ho hd (hQ _ ⟨_, _, ep + 1, Heap.get?_update_self _ ho (Obj.isFreed_of_dict (Obj.data_mapDictKeys hd _)),
      hc.mapDictKeys _, Obj.data_mapDictKeys hd _, hk.push hkey _, ?_, ?_⟩ (Heap.SameBut.update ..))
    · rw [stored, if_neg hany]
      have := hp.append hkey ((mixKind prog w).hash k) v
      obtain ⟨l⟩ := es
      simpa using this
    · rw [stored, if_neg hany, List.map_append, List.nodup_append]
      refine ⟨hn, by simp, ?_⟩
      intro a ha b hb
      simp only [List.map_cons, List.map_nil, List.mem_singleton] at hb
      subst hb
      exact fun e => hnot (e ▸ ha)
theorem mergeMap {d o : Addr} {kvs more : List (Key × Value)} {Q : Unit → Shared → Prop} (hdo : d ≠ o) (hoS : (o == sysModules) = false)
    (hd : s.heap.DictOf (mixKind prog w) d kvs) (ho : s.heap.DictOf (mixKind prog w) o more)
    (hQ : ∀ h', h'.DictOf (mixKind prog w) d (merged kvs more) → h'.DictOf (mixKind prog w) o more → Heap.SameBut d s.heap h' → Q () { s with heap := h' })
    (hsz : kvs.length + more.length ≤ sizeLine) :
    wpAny (model prog w) A (mergeMapping d (.ref o) false) Q E s := by
  obtain ⟨od, esd, epd, hod, hcd, hdd, hkd, hpd, hnd⟩ := id hd
  obtain ⟨oo, eso, epo, hoo, hco, hdo', hko, hpo, hno⟩ := id ho
  have hlen : more.length = eso.size := by rw [← hpo.length]; simp
  have keyNo : ∀ e ∈ eso.toList, ∀ a, e.key ≠ .ref a := fun e he a z => by
    obtain ⟨k, hk, _⟩ := hko e (by simpa using he)
    rcases keyIs_shape hk with ⟨i, t, _, e2⟩ | ⟨x, t, _, e2⟩ <;> rw [z] at e2 <;> cases e2
  have loop : ∀ s2 : Shared, s2 = s → wpAny (model prog w) A (do
      let __do_lift ← dictEntries o
      have size : Nat := __do_lift.size
      let epoch ← dictEpoch o
      forIn (List.range size) PUnit.unit fun i (_ : PUnit) => (do
          let __do_lift ← dictEntries o
          match __do_lift[i]? with
            | some e => do
              holding [e.key, e.val] (dictPut d e.hash e.key e.val)
              let __do_lift ← dictEpoch o
              if (__do_lift != epoch) = true then do
                  (unsupported "dict.changed-during-merge" : Sem PUnit)
                  pure (ForInStep.yield PUnit.unit)
                else pure (ForInStep.yield PUnit.unit)
            | x => do
              (unsupported "dict.changed-during-merge" : Sem PUnit)
              pure (ForInStep.yield PUnit.unit) : Sem (ForInStep PUnit))
      pure ()) Q E s2 := by
    intro s2 hs2
    subst hs2
    refine wpAny_bind (wpAny_dictEntries hoo hdo' ?_)
    refine wpAny_bind (wpAny_dictEpoch hoo hdo' ?_)
    refine wpAny_bind ?_
    refine wpAny_forIn_list _
      (fun rest _ s' => ∃ h' i, s' = { s2 with heap := h' } ∧ rest = List.range' i (eso.size - i) ∧ i ≤ eso.size ∧ h'.DictOf (mixKind prog w) d (merged kvs (more.take i)) ∧ h'.get? o = some oo ∧ Heap.SameBut d s2.heap h')
      _ ?_ ?_ _ _ ⟨s2.heap, 0, rfl, by simp [List.range_eq_range'], Nat.zero_le _, by simpa [merged] using hd, hoo, Heap.SameBut.refl _ _⟩
    · rintro x rest b s' ⟨h', i, rfl, hr, hi, hd', hoo', hs'⟩
      have hlt : i < eso.size := by
        rcases Nat.lt_or_ge i eso.size with h | h
        · exact h
        · rw [Nat.sub_eq_zero_of_le h] at hr; simp at hr
      obtain ⟨rfl, hrest⟩ : x = i ∧ rest = List.range' (i + 1) (eso.size - (i + 1)) := by
        have e : eso.size - i = (eso.size - (i + 1)) + 1 := by omega
        rw [e, List.range'_succ] at hr
        injection hr with h1 h2
        exact ⟨h1, h2⟩
      refine wpAny_bind (wpAny_dictEntries hoo' hdo' ?_)
      rw [Array.getElem?_eq_getElem hlt]
      obtain ⟨kv, hkv⟩ : ∃ kv, more[x]? = some kv := ⟨more[x]'(by rw [hlen]; exact hlt), List.getElem?_eq_getElem _⟩
      obtain ⟨k, v⟩ := kv
      obtain ⟨hkey, hval⟩ := hpo.get? (e := eso[x]) (by simp [hlt]) hkv
      obtain ⟨k', hkey', hhash⟩ := hko eso[x] (Array.getElem_mem hlt)
      obtain rfl : k' = k := (mixKind prog w).inj _ _ _ hkey' hkey
      show wpAny _ _ (holding [eso[x].key, eso[x].val] (dictPut d eso[x].hash eso[x].key eso[x].val) >>= _) _ _ _
      rw [hhash, hval]
      have hmx : (merged kvs (more.take x)).length ≤ sizeLine := by
        have e1 := merged_length_le kvs (more.take x)
        have e2 : (more.take x).length ≤ more.length := by rw [List.length_take]; omega
        omega
      refine wpAny_bind (wpAny_holding (dictPut_pairs hkey hd' (fun h'' hd'' hs'' => ?_) hmx))
      have hoo'' : h''.get? o = some oo := (hs''.2 o (Ne.symm hdo)).trans hoo'
      refine wpAny_bind (wpAny_dictEpoch hoo'' hdo' ?_)
      rw [if_neg (by simp)]
      exact wpAny_pure ⟨h'', x + 1, rfl, hrest, hlt, by rw [merged_take_succ kvs more x (k', v) hkv]; exact hd'', hoo'', hs'.trans hs''⟩
    · rintro b s' ⟨h', i, rfl, hr, hi, hd', hoo', hs'⟩
      have hin : i = eso.size := by
        rcases Nat.lt_or_ge i eso.size with h | h
        · have e : eso.size - i = (eso.size - (i + 1)) + 1 := by omega
          rw [e, List.range'_succ] at hr; exact nomatch hr
        · exact Nat.le_antisymm hi h
      refine wpAny_pure (hQ h' ?_ ⟨oo, eso, epo, hoo', hco, hdo', hko, hpo, hno⟩ hs')
      rw [hin, ← hlen, List.take_length] at hd'; exact hd'
  unfold mergeMapping
  refine wpAny_bind (wpAny_isInstance ho.typeIs isSubtype_dict_dict ?_)
  rw [if_pos rfl]
  refine wpAny_bind (wpAny_specialOf ho.typeIs F.slot_dict_iter.lookup ?_)
  simp only [beq_self_eq_true, pure_bind, hoS, Bool.false_eq_true, if_false]
  refine wpAny_bind (wpAny_dictEntries hod hdd ?_)
  split
  · refine wpAny_bind (wpAny_dictEntries hoo hdo' ?_)
    refine wpAny_bind ?_
    rw [← Array.forIn_toList]
    refine wpAny_forIn_list _ (fun rest _ s' => s' = s ∧ ∀ e ∈ rest, ∀ a, e.key ≠ .ref a) _ ?_ ?_ _ _ ⟨rfl, keyNo⟩
    · rintro x rest b s' ⟨rfl, hk⟩
      have h1 := hk x List.mem_cons_self
      have done : wpAny (model prog w) A (pure (ForInStep.yield PUnit.unit) : Sem (ForInStep PUnit)) (fun r s2 => match r with
        | .yield b' => s2 = s' ∧ ∀ e ∈ rest, ∀ a, e.key ≠ .ref a
        | .done b' => True) E s' := wpAny_pure ⟨rfl, fun e he => hk e (List.mem_cons_of_mem _ he)⟩
      split
      · next a ha => exact absurd ha (h1 a)
      · exact wpAny_pure ⟨rfl, fun e he => hk e (List.mem_cons_of_mem _ he)⟩
    · rintro b s' ⟨rfl, _⟩
      exact loop _ rfl
  · exact loop _ rfl
end
end AL
/-! {**d, k: v} as a rule. -/
namespace AL
open PySem PySem.Spec PyProof.Rows L2
section
variable {X : Cx} {cl : Nat → Addr} {K : PySem.W.Frag}
def tSpr (ta tk tv : TE) : TE := fun σ H Q => ∀ p, H p = none → ta σ (upd H p (.dK [])) fun x H1 => ∃ da kvs, x = .ref da ∧ p ≠ da ∧ H1 da = some (.dK kvs) ∧ H1 p = some (.dK []) ∧
  ∀ p2, H1 p2 = none → tk σ (upd (upd H1 p (.dK (mergeK [] kvs))) p2 (.dK [])) fun y H3 => tv σ H3 fun z H4 => ∃ kk kvs2, y = kV kk ∧ p ≠ p2 ∧ H4 p2 = some (.dK []) ∧ H4 p = some (.dK kvs2) ∧ kvs2.length < sizeLine ∧
    Q (.ref p) (upd (upd H4 p2 (.dK (mergeK [] [(kk, z)]))) p (.dK (mergeK kvs2 [(kk, z)])))
theorem pe_spr {a k v : Expr} {ta tk tv : TE} {pos : Pos} (ha : PE X a ta) (hk : PE X k tk) (hv : PE X v tv) : PE X (.Dict [none, some k] [a, v] pos) (tSpr ta tk tv) := by
  refine ⟨fun pins s σ H Q I q => ?_⟩
  have hn := I.hok.fresh (Nat.le_refl s.heap.objs.size)
  have I1 := I.laid (a := s.heap.objs.size) (o := .dK []) (h' := s.heap.push { cls := .type "dict", data := .dict #[] }) (t' := s.toks) (fun _ _ q => Heap.get?_push_of_some _ q) (Nat.le_refl _) (dk_empty s.heap I.big)
  rw [arm_eval_Dict]
  refine wpAny_bind (wpAny_standAt ?_)
  show wpAny _ _ (dictDisplay [(none, do let x ← eval a X.env; standAt pos; pure x), (some (eval k X.env), do let x ← eval v X.env; standAt pos; pure x)]) _ _ _
  unfold dictDisplay
  simp only [List.forIn_cons, List.forIn_nil, List.isEmpty_nil, if_true, pure_bind, bind_assoc, List.nil_append, List.length_cons, List.length_nil, Nat.reduceAdd, Nat.reduceBEq, Bool.false_eq_true, if_false, List.isEmpty_cons]
  refine wpAny_bind (wpAny_alloc ?_)
  refine wpAny_bind (wpAny_holding (wpAny_bind (thn (ha.run pins _ σ _ _ I1 (q _ hn)) fun u s1 ⟨x, H1, I2, rx, da, kvs, ex, hne, hda, hp, q1⟩ => wpAny_bind (wpAny_standAt (wpAny_pure ?_)))))
  subst ex
  obtain rfl : u = Value.ref da := rx
  obtain ⟨zd, hd0, vsd, rd, dd⟩ := dk_of I2.hok hda
  obtain ⟨zp, hp0, vsp, rp, dp⟩ := dk_of I2.hok hp
  cases rp
  refine wpAny_bind (wpAny_onRaise (wpAny_tryCatch (wpAny_onRaise (wpAny_holding (mergeMap hne hd0 dp dd (fun h1 d1 d2 hs1 => ?_) (by rw [List.length_nil, Nat.zero_add, ← rd.length]; exact zd))))))
  have I3 : L2.Inv X pins σ (upd H1 s.heap.objs.size (.dK (mergeK [] kvs))) { s1 with heap := h1, toks := s1.toks } := by
    have he : ∃ q, h1.get? s.heap.objs.size = some q := let ⟨q, _, _, hq, _⟩ := d1; ⟨q, hq⟩
    refine d_write I2 (by rw [hp]; exact True.intro) hs1 he (dk_new ?_ hp0 (rd.merge .nil) d1)
    have := length_mergeK kvs []
    rw [List.length_nil, Nat.zero_add] at this
    exact Nat.le_trans this zd
  refine wpAny_bind (wpAny_holding ?_)
  refine wpAny_subDict (knd := mixKind X.prog X.w) (Nat.le_add_right 1 14) ?_
  have hn2 := I3.hok.fresh (Nat.le_refl h1.objs.size)
  have hn3 : H1 h1.objs.size = none := by
    have : h1.objs.size ≠ s.heap.objs.size := fun z => by rw [z, upd_same] at hn2; cases hn2
    rw [upd_ne this] at hn2
    exact hn2
  have I4 := I3.laid (a := h1.objs.size) (o := .dK []) (h' := h1.push { cls := .type "dict", data := .dict #[] }) (t' := s1.toks) (fun _ _ q => Heap.get?_push_of_some _ q) (Nat.le_refl _) (dk_empty h1 I3.big)
  refine evalPairs_cons (thn (hk.run pins _ σ _ _ I4 (q1 _ hn3)) fun uk s2 ⟨y, H3, I5, ry, q2⟩ => wpAny_bind (thn (hv.run pins _ σ _ _ I5 q2) fun uv s3 ⟨z, H4, I6, rz, kk, kvs2, ey, hpp, g1, g2, gz, q3⟩ => wpAny_bind (wpAny_standAt (wpAny_pure (evalPairs_nil ?_)))))
  subst ey
  obtain ⟨z2, hp2, vs2, r2, dd2⟩ := dk_of I6.hok g1
  cases r2
  refine ⟨[(kk, uv)], ⟨kV_is ry, rfl, True.intro⟩, dd2, fun h3 dd3 hs3 => ?_⟩
  have rkz : KV [(kk, z)] [(kk, uv)] := .cons ⟨rfl, rz⟩ .nil
  have I7 : L2.Inv X pins σ (upd H4 h1.objs.size (.dK (mergeK [] [(kk, z)]))) { s3 with heap := h3, toks := s3.toks + [(uk, uv)].length } := by
    have he : ∃ q, h3.get? h1.objs.size = some q := let ⟨q, _, _, hq, _⟩ := dd3; ⟨q, hq⟩
    exact d_write I6 (by rw [g1]; exact True.intro) hs3 he (dk_new (by show 1 ≤ sizeLine; decide) hp2 (rkz.merge .nil) dd3)
  have gp : (upd H4 h1.objs.size (.dK (mergeK [] [(kk, z)]))) s.heap.objs.size = some (.dK kvs2) := by rw [upd_ne hpp]; exact g2
  have gs : (upd H4 h1.objs.size (.dK (mergeK [] [(kk, z)]))) h1.objs.size = some (.dK (mergeK [] [(kk, z)])) := upd_same
  obtain ⟨z5, hp5, vs5, r5, dd5⟩ := dk_of I7.hok gp
  refine wpAny_bind (wpAny_onRaise (wpAny_holding (mergeMap hpp hp2 dd5 dd3 (fun h5 d5 d6 hs5 => wpAny_pure ?_) (by rw [← r5.length]; show kvs2.length + 1 ≤ sizeLine; omega))))
  refine ⟨.ref s.heap.objs.size, upd (upd H4 h1.objs.size (.dK (mergeK [] [(kk, z)]))) s.heap.objs.size (.dK (mergeK kvs2 [(kk, z)])), ?_, rfl, q3⟩
  have he : ∃ q, h5.get? s.heap.objs.size = some q := let ⟨q, _, _, hq, _⟩ := d5; ⟨q, hq⟩
  refine d_write I7 (by rw [gp]; exact True.intro) hs5 he (dk_new ?_ hp5 (rkz.merge r5) d5)
  have := length_mergeK [(kk, z)] kvs2
  rw [List.length_singleton] at this
  omega
/-- {**d, k: v} -/
def fSpr (fo fk fv : AE) : AE := fun ds M => match fo ds (M.new (.dct [])) with
  | some (.ref n, M1) => if n = M.nx then none else match M1.mem n, M1.mem M.nx with
    | some (.dct kds), some (.dct []) => match fk ds ((M1.set M.nx (.dct (mergeD [] kds))).new (.dct [])) with
      | some (k, M2) => match fv ds M2 with
        | some (v, M3) => match keyD k, M3.mem M1.nx, M3.mem M.nx with
          | some kk, some (.dct []), some (.dct kds2) => if kds2.length < big then some (.ref M.nx, (M3.set M1.nx (.dct (mergeD [] [(kk, v)]))).set M.nx (.dct (mergeD kds2 [(kk, v)]))) else none
          | _, _, _ => none
        | none => none
      | none => none
    | _, _ => none
  | _ => none
theorem a_spr {a k v : Expr} {fo fk fv : AE} {pos : Pos} (ha : PE X a (cE X.K cl fo)) (hk : PE X k (cE X.K cl fk)) (hv : PE X v (cE X.K cl fv)) : PE X (.Dict [none, some k] [a, v] pos) (cE X.K cl (fSpr fo fk fv)) := PE.imp (pe_spr ha hk hv) fun σ H Q h => by
  obtain ⟨ρ, ds, M, d, M', E, A, e, q⟩ := h
  unfold fSpr at e
  split at e
  · next n M1 e1 =>
    split at e
    · cases e
    · next hne =>
      split at e
      · next kds hm0 hm1 =>
        split at e
        · next k M2 e2 =>
          split at e
          · next v M3 e3 =>
            split at e
            · next kk kds2 hkk hmp hm2 =>
              split at e
              · next hz =>
                cases e
                intro p hp
                have sm : Same H (upd H p (.dK [])) := same_upd hp
                have x0 := A.ext_new sm p
                have A0 : Abs X.K cl (rhoNew ρ M.nx p) (upd H p (.dK [])) (M.new (.dct [])) := A.new sm hp ⟨[], upd_same, trivial⟩
                refine goE (E.up x0) A0 e1 fun ρ1 v1 H1 x1 A1 r1 => ?_
                have hr : ρ1 M.nx = some p := x1.re _ _ rhoNew_same
                cases r1 with
                | @ref da _ hrd =>
                obtain ⟨kvs, h1, h2⟩ := A1.at hrd hm0
                obtain ⟨kv0, h3, h4⟩ := A1.at hr hm1
                have : kv0 = [] := List.length_eq_zero_iff.mp h4.length
                subst this
                have pda : p ≠ da := fun z => hne (A1.inj n M.nx da (.dct kds) (.dct []) hrd (z ▸ hr) hm0 hm1 trivial trivial)
                refine ⟨da, kvs, rfl, pda, h1, h3, fun p2 hp2 => ?_⟩
                have xw : Ext ρ1 H1 ρ1 (upd H1 p (.dK (mergeK [] kvs))) := A1.ext_write hr hm1 trivial
                have A2 : Abs X.K cl ρ1 (upd H1 p (.dK (mergeK [] kvs))) (M1.set M.nx (.dct (mergeD [] kds))) := A1.write hr hm1 trivial trivial ⟨_, upd_same, (KDs.merge _ _ _ _ h2 (show KDs X.K ρ1 H1 [] [] from trivial)).up xw⟩
                have pp2 : p ≠ p2 := fun z => by subst z; rw [h3] at hp2; cases hp2
                have hp2' : (upd H1 p (.dK (mergeK [] kvs))) p2 = none := by rw [upd_ne pp2.symm]; exact hp2
                have sm2 : Same (upd H1 p (.dK (mergeK [] kvs))) (upd (upd H1 p (.dK (mergeK [] kvs))) p2 (.dK [])) := same_upd hp2'
                have x2 := A2.ext_new sm2 p2
                have A3 : Abs X.K cl (rhoNew ρ1 M1.nx p2) (upd (upd H1 p (.dK (mergeK [] kvs))) p2 (.dK [])) ((M1.set M.nx (.dct (mergeD [] kds))).new (.dct [])) := A2.new sm2 hp2' ⟨[], upd_same, trivial⟩
                have E3 := (((E.up x0).up x1).up xw).up x2
                refine goE E3 A3 e2 fun ρ4 v4 H4 x4 A4 r4 => ?_
                refine goE (E3.up x4) A4 e3 fun ρ5 v5 H5 x5 A5 r5 => ?_
                have hr2 : ρ5 M1.nx = some p2 := x5.re _ _ (x4.re _ _ rhoNew_same)
                have hr1 : ρ5 M.nx = some p := x5.re _ _ (x4.re _ _ (x2.re _ _ hr))
                obtain ⟨kv5, g1, g2⟩ := A5.at hr2 hmp
                have : kv5 = [] := List.length_eq_zero_iff.mp g2.length
                subst this
                obtain ⟨kvs2, g3, g4⟩ := A5.at hr1 hm2
                have hk' := keyD_rep (r4.up x5) hkk
                refine ⟨kk, kvs2, hk', pp2, g1, g3, by rw [g4.length]; exact big_lt hz, ?_⟩
                have y1 : Ext ρ5 H5 ρ5 (upd H5 p2 (.dK (mergeK [] [(kk, v5)]))) := A5.ext_write hr2 hmp trivial
                have B1 : Abs X.K cl ρ5 (upd H5 p2 (.dK (mergeK [] [(kk, v5)]))) (M3.set M1.nx (.dct (mergeD [] [(kk, v)]))) :=
                  A5.write hr2 hmp trivial trivial ⟨_, upd_same, (KDs.merge _ _ _ _ (show KDs X.K ρ5 H5 [(kk, v5)] [(kk, v)] from ⟨rfl, r5, trivial⟩) (show KDs X.K ρ5 H5 [] [] from trivial)).up y1⟩
                have nne : M.nx ≠ M1.nx := fun z => by
                  rw [z, hr2] at hr1
                  exact pp2 (Option.some.inj hr1).symm
                have hm2' : (M3.set M1.nx (.dct (mergeD [] [(kk, v)]))).mem M.nx = some (.dct kds2) := by rw [AS.set_ne nne]; exact hm2
                have g3' : (upd H5 p2 (.dK (mergeK [] [(kk, v5)]))) p = some (.dK kvs2) := by rw [upd_ne pp2]; exact g3
                have y2 : Ext ρ5 (upd H5 p2 (.dK (mergeK [] [(kk, v5)]))) ρ5 (upd (upd H5 p2 (.dK (mergeK [] [(kk, v5)]))) p (.dK (mergeK kvs2 [(kk, v5)]))) := B1.ext_write hr1 hm2' trivial
                have B2 : Abs X.K cl ρ5 (upd (upd H5 p2 (.dK (mergeK [] [(kk, v5)]))) p (.dK (mergeK kvs2 [(kk, v5)]))) ((M3.set M1.nx (.dct (mergeD [] [(kk, v)]))).set M.nx (.dct (mergeD kds2 [(kk, v)]))) :=
                  B1.write hr1 hm2' trivial trivial ⟨_, upd_same, (KDs.merge _ _ _ _ (show KDs X.K ρ5 (upd H5 p2 (.dK (mergeK [] [(kk, v5)]))) [(kk, v5)] [(kk, v)] from ⟨rfl, r5.up y1, trivial⟩) (g4.up y1)).up y2⟩
                exact q ρ5 _ _ ((((((x0.trans x1).trans xw).trans x2).trans x4).trans x5).trans (y1.trans y2)) B2 (.ref hr1)
              · cases e
            · cases e
          · cases e
        · cases e
      · cases e
  · cases e
end
end AL
/-! a, b, c = x, y, z. -/
namespace AL
open PySem PySem.Spec PyProof.Rows L2
section
variable {X : Cx} {cl : Nat → Addr} {K : PySem.W.Frag}
def fPar3 (i j l : Nat) (g : AA) : ASt := fun ds M => match g ds M with
  | some ([d, e, f], M1) => some (.nx, ((ds.set i (some d)).set j (some e)).set l (some f), M1)
  | _ => none
theorem s_par3 {i j l : Nat} {x y z : Str} {a b c : Expr} {g : AA} {px py pz pt : Pos} {kt k2 pt2 pos} (ha : PA X [a, b, c] (cA X.K cl g))
    (h : ∀ ta : TA, PA X [a, b, c] ta → PS X (.Assign [.Tuple [.Name x px, .Name y py, .Name z pz] kt pt] (.Tuple [a, b, c] k2 pt2) pos) (tPar3 i j l ta)) :
    PS X (.Assign [.Tuple [.Name x px, .Name y py, .Name z pz] kt pt] (.Tuple [a, b, c] k2 pt2) pos) (cS X.K cl (fPar3 i j l g)) := PS.imp (h _ ha) fun Dn σ H h => by
  obtain ⟨ρ, ds, M, fl, ds', M', E, A, e, q⟩ := h
  unfold fPar3 at e
  split at e
  · next d e' f M1 e1 =>
    cases e
    refine goA E A e1 fun ρ1 vs H1 x1 A1 r1 => ?_
    obtain ⟨u, v, w, rfl, h1, h2, h3⟩ := reps3 r1
    exact ⟨u, v, w, rfl, q ρ1 _ H1 x1 A1 ((((E.up x1).set i h1).set j h2).set l h3)⟩
  · cases e
end
end AL
namespace AL
open L2 PySem
theorem kit_no {K : PySem.W.Frag} {C C' : Addr} (h1 : PySem.W.isClsIn K C = true) (h2 : PySem.W.typeIn K (.ref C) = some (.type "type")) (h3 : PySem.W.subIn K (.ref C') (.ref C) = some false) (hn : (Value.ref C' == Value.ref C) = false) : PySem.W.kitOne K (.ref C') (.ref C) = some false := by
  unfold PySem.W.isClsIn at h1
  unfold PySem.W.kitOne PySem.W.kitCls
  rw [hn, if_neg (by decide)]
  simp only [h1, h2, Bool.true_and, beq_self_eq_true, if_true]
  exact h3
end AL
/-! The text's defs, each read as a function. Written by gen.py. -/
namespace SM
open PySem L2 AL
def topS (i : Nat) : Stmt := PySem.Challenge.pw_samerun_k01_whole_machine.main.body.getD i (.Pass ⟨0, 0, 0, 0⟩)
def c_ALL_KINDS : D := (.tup [(.str "rings"), (.str "alarms"), (.str "ticks"), (.str "words"), (.str "results"), (.str "firsts")])
def c_QUIET : D := (.tup [(.bl false), (.bl false), (.bl false), .non, (.int 0), (.int 0)])
def c_MOST_WORDS : D := (.int 2)
def c_LONGEST_RUN : D := (.int 200)
def t_GREATEST : List (Str × D) := [("set", (.int 2)), ("load", (.int 2)), ("add", (.int 2)), ("save", (.int 2)), ("first", (.int 2)), ("show", (.int 0)), ("shut", (.int 0)), ("open", (.int 0)), ("time", (.int 0)), ("take", (.int 0)), ("count", (.int 0)), ("spilt", (.int 0)), ("call", (.int 0))]
/-- the parameters in their order: self and the positional ones, then those by keyword -/
def gD_Scheme (es zs : List D) : List D := es ++ zs
/-! _law_cell_at -/
abbrev s__law_cell_at : Stmt := topS 40
abbrev N__law_cell_at : List Str := ["_law_script", "_law_k"]
theorem sc__law_cell_at : FnScope N__law_cell_at ["_law_script", "_law_k"] (defScope s__law_cell_at) := ⟨rfl, rfl, rfl, by decide +kernel, rfl, by decide +kernel, by decide +kernel⟩
def A__law_cell_at : AF := fnA 2 (fSeq
    (fIfS (fTst (fBin oLt (fVar 1) (fCB oLen (fCons (fVar 0) fNil)))) (fRet (fBin oIx (fVar 0) (fVar 1))) fNx)
    (fRet (fC (.int 0))))
theorem ok__law_cell_at {P : Program} {w : World} {K : PySem.W.Frag} {mg : Str → Option Value} {base : Heap} {cl : Nat → Addr} {f : Addr} {fd : FuncData} (n_len : mg "len" = none) (F : Fun K "_law_cell_at" "_law_cell_at" s__law_cell_at f fd) : FnOk P w K mg base CX0 1 f fd ["_law_script", "_law_k"] (cF K cl 2 A__law_cell_at) :=
  fn_ok (N := N__law_cell_at) (k := 0) F sc__law_cell_at fun cdv A outer s H E hr =>
    (ss_cons
    (s_if (a_tcmp op_lt opa_lt (av 1) (a_len n_len (av 0))) (ss_one (s_ret (a_ix (av 0) (av 1)))) ss_nil)
    (ss_one (s_ret a_int)))
/-! _law_draw -/
abbrev s__law_draw : Stmt := topS 41
abbrev N__law_draw : List Str := ["_law_cell", "_law_k", "_law_bound", "_law_primes"]
theorem sc__law_draw : FnScope N__law_draw ["_law_cell", "_law_k", "_law_bound"] (defScope s__law_draw) := ⟨rfl, rfl, rfl, by decide +kernel, rfl, by decide +kernel, by decide +kernel⟩
def A__law_draw : AF := fnA 4 (fSeq
    (fAsg (fTup (fCons (fC (.int 1000003)) (fCons (fC (.int 1000033)) (fCons (fC (.int 1000037)) (fCons (fC (.int 1000039)) (fCons (fC (.int 1000081)) (fCons (fC (.int 1000099)) (fCons (fC (.int 1000117)) (fCons (fC (.int 1000121)) (fCons (fC (.int 1000133)) (fCons (fC (.int 1000151)) (fCons (fC (.int 1000159)) (fCons (fC (.int 1000171)) (fCons (fC (.int 1000183)) (fCons (fC (.int 1000187)) (fCons (fC (.int 1000193)) (fCons (fC (.int 1000199)) fNil))))))))))))))))) (gN 3))
    (fRet (fBin oMod (fBin oMod (fCB oInt (fCons (fBin oAdd (fBin oMul (fVar 0) (fC (.int 48271))) (fBin oMul (fVar 1) (fC (.int 69621)))) fNil)) (fBin oIx (fVar 3) (fBin oMod (fCB oInt (fCons (fVar 1) fNil)) (fC (.int 16))))) (fVar 2))))
theorem ok__law_draw {P : Program} {w : World} {K : PySem.W.Frag} {mg : Str → Option Value} {base : Heap} {cl : Nat → Addr} {f : Addr} {fd : FuncData} (n_int : mg "int" = none) (F : Fun K "_law_draw" "_law_draw" s__law_draw f fd) : FnOk P w K mg base CX0 1 f fd ["_law_cell", "_law_k", "_law_bound"] (cF K cl 3 A__law_draw) :=
  fn_ok (N := N__law_draw) (k := 0) F sc__law_draw fun cdv A outer s H E hr =>
    (ss_cons
    (s_set sc__law_draw.nd (a_tup (g_cons a_int (g_cons a_int (g_cons a_int (g_cons a_int (g_cons a_int (g_cons a_int (g_cons a_int (g_cons a_int (g_cons a_int (g_cons a_int (g_cons a_int (g_cons a_int (g_cons a_int (g_cons a_int (g_cons a_int (g_cons a_int g_nil))))))))))))))))))
    (ss_one (s_ret (a_mod (a_mod (a_intc n_int (a_add (a_mul (av 0) a_int) (a_mul (av 1) a_int))) (a_ix (av 3) (a_mod (a_intc n_int (av 1)) a_int))) (av 2)))))
/-! _law_number -/
abbrev s__law_number : Stmt := topS 42
abbrev N__law_number : List Str := ["_law_cell", "_law_k", "_law_bound", "_law_power", "_law_times", "_law_remains", "_law_small"]
theorem sc__law_number : FnScope N__law_number ["_law_cell", "_law_k", "_law_bound"] (defScope s__law_number) := ⟨rfl, rfl, rfl, by decide +kernel, rfl, by decide +kernel, by decide +kernel⟩
def A__law_number : AF := fnA 7 (fSeq
    (fAsg (fC (.int 1)) (gN 3))
    (fSeq
    (fFor (fRng1 (fCons (fBin oMod (fCB oInt (fCons (fVar 1) fNil)) (fC (.int 24))) fNil)) (gN 4) (fAsg (fBin oMul (fVar 3) (fC (.int 1009))) (gN 3)))
    (fSeq
    (fAsg (fBin oDiv (fBin oSub (fVar 0) (fBin oPow (fC (.int 10)) (fC (.int 18)))) (fVar 3)) (gN 5))
    (fSeq
    (fIfS (fTst (fBin oGt (fVar 5) (fC (.int 0)))) (fRet (fBin oMod (fBin oMod (fCB oInt (fCons (fVar 5) fNil)) (fC (.int 1009))) (fVar 2))) fNx)
    (fSeq
    (fAsg (fBin oMod (fCB oInt (fCons (fVar 0) fNil)) (fC (.int 1000003))) (gN 6))
    (fRet (fBin oMod (fCall A__law_draw (fCons (fBin oMul (fBin oAdd (fVar 6) (fBin oMul (fC (.int 977)) (fVar 1))) (fBin oAdd (fBin oAdd (fVar 6) (fBin oMul (fC (.int 31)) (fVar 1))) (fC (.int 5)))) (fCons (fBin oAdd (fBin oMod (fCB oInt (fCons (fVar 1) fNil)) (fC (.int 9))) (fC (.int 1))) (fCons (fC (.int 999983)) fNil)))) (fVar 2))))))))
theorem ok__law_number {P : Program} {w : World} {K : PySem.W.Frag} {mg : Str → Option Value} {base : Heap} {cl : Nat → Addr} {f : Addr} {fd : FuncData} (n_int : mg "int" = none) (n_range : mg "range" = none) (h__law_draw : CallOk P w K mg base cl "_law_draw" 1 3 A__law_draw) (F : Fun K "_law_number" "_law_number" s__law_number f fd) : FnOk P w K mg base CX0 2 f fd ["_law_cell", "_law_k", "_law_bound"] (cF K cl 3 A__law_number) :=
  fn_ok (N := N__law_number) (k := 1) F sc__law_number fun cdv A outer s H E hr =>
    (ss_cons
    (s_set sc__law_number.nd a_int)
    (ss_cons
    (s_for PassesOwn.never rfl (i_range1 n_range (g_cons (a_mod (a_intc n_int (av 1)) a_int) g_nil)) (t_name sc__law_number.nd) (ss_one (s_set sc__law_number.nd (a_mul (av 3) a_int))))
    (ss_cons
    (s_set sc__law_number.nd (a_div (a_sub (av 0) (a_pow a_int a_int)) (av 3)))
    (ss_cons
    (s_if (a_tcmp op_gt opa_gt (av 5) a_int) (ss_one (s_ret (a_mod (a_mod (a_intc n_int (av 5)) a_int) (av 2)))) ss_nil)
    (ss_cons
    (s_set sc__law_number.nd (a_mod (a_intc n_int (av 0)) a_int))
    (ss_one (s_ret (a_mod (a_callO h__law_draw hr (g_cons (a_mul (a_add (av 6) (a_mul a_int (av 1))) (a_add (a_add (av 6) (a_mul a_int (av 1))) a_int)) (g_cons (a_add (a_mod (a_intc n_int (av 1)) a_int) a_int) (g_cons a_int g_nil)))) (av 2)))))))))
/-! _law_next -/
abbrev s__law_next : Stmt := topS 43
abbrev N__law_next : List Str := ["_law_draw_here", "_law_bound", "_law_at", "_law_cell"]
theorem sc__law_next : FnScope N__law_next ["_law_draw_here", "_law_bound"] (defScope s__law_next) := ⟨rfl, rfl, rfl, by decide +kernel, rfl, by decide +kernel, by decide +kernel⟩
def A__law_next : AF := fnA 4 (fSeq
    (fAsg (fBin oAdd (fBin oIx (fVar 0) (fC (.int 2))) (fC (.int 1))) (gSubD (fVar 0) (fC (.int 2))))
    (fSeq
    (fAsg (fBin oDiv (fBin oIx (fVar 0) (fC (.int 2))) (fC (.int 12))) (gN 2))
    (fSeq
    (fAsg (fBin oAdd (fCall A__law_cell_at (fCons (fBin oIx (fVar 0) (fC (.int 0))) (fCons (fBin oAdd (fBin oIx (fVar 0) (fC (.int 1))) (fVar 2)) fNil))) (fBin oMul (fC (.int 31)) (fVar 2))) (gN 3))
    (fRet (fCall A__law_number (fCons (fVar 3) (fCons (fBin oAdd (fBin oMod (fCB oInt (fCons (fBin oIx (fVar 0) (fC (.int 2))) fNil)) (fC (.int 12))) (fC (.int 1))) (fCons (fVar 1) fNil))))))))
theorem ok__law_next {P : Program} {w : World} {K : PySem.W.Frag} {mg : Str → Option Value} {base : Heap} {cl : Nat → Addr} {f : Addr} {fd : FuncData} (h__law_cell_at : CallOk P w K mg base cl "_law_cell_at" 1 2 A__law_cell_at) (n_int : mg "int" = none) (h__law_number : CallOk P w K mg base cl "_law_number" 2 3 A__law_number) (F : Fun K "_law_next" "_law_next" s__law_next f fd) : FnOk P w K mg base CX0 3 f fd ["_law_draw_here", "_law_bound"] (cF K cl 2 A__law_next) :=
  fn_ok (N := N__law_next) (k := 2) F sc__law_next fun cdv A outer s H E hr =>
    (ss_cons
    (s_asg (a_add (a_ix (av 0) a_int) a_int) (t_sub (av 0) a_int))
    (ss_cons
    (s_set sc__law_next.nd (a_div (a_ix (av 0) a_int) a_int))
    (ss_cons
    (s_set sc__law_next.nd (a_add (a_callO h__law_cell_at hr (g_cons (a_ix (av 0) a_int) (g_cons (a_add (a_ix (av 0) a_int) (av 2)) g_nil))) (a_mul a_int (av 2))))
    (ss_one (s_ret (a_callO h__law_number hr (g_cons (av 3) (g_cons (a_add (a_mod (a_intc n_int (a_ix (av 0) a_int)) a_int) a_int) (g_cons (av 1) g_nil)))))))))
/-! is_number -/
abbrev s_is_number : Stmt := topS 9
abbrev N_is_number : List Str := ["value", "least", "greatest"]
theorem sc_is_number : FnScope N_is_number ["value", "least", "greatest"] (defScope s_is_number) := ⟨rfl, rfl, rfl, by decide +kernel, rfl, by decide +kernel, by decide +kernel⟩
def A_is_number : AF := fnA 3 (fRet (fAndV (fCB (oIsi "int") (fCons (fVar 0) (fCons (fC (.con (.ty "int"))) fNil))) (fAndV (fNotV (fCB (oIsi "bool") (fCons (fVar 0) (fCons (fC (.con (.ty "bool"))) fNil)))) (fChain oLe oLe (fVar 1) (fVar 0) (fVar 2)))))
theorem ok_is_number {P : Program} {w : World} {K : PySem.W.Frag} {mg : Str → Option Value} {base : Heap} {cl : Nat → Addr} {f : Addr} {fd : FuncData} (n_isinstance : mg "isinstance" = none) (n_int : mg "int" = none) (n_bool : mg "bool" = none) (F : Fun K "is_number" "is_number" s_is_number f fd) : FnOk P w K mg base CX0 1 f fd ["value", "least", "greatest"] (cF K cl 3 A_is_number) :=
  fn_ok (N := N_is_number) (k := 0) F sc_is_number fun cdv A outer s H E hr =>
    (ss_one (s_ret (a_and (a_isi n_isinstance n_int (by decide +kernel) (av 0)) (a_and (a_not (a_isi n_isinstance n_bool (by decide +kernel) (av 0))) (a_one (a_chain op_le opa_le op_le opa_le (av 1) (av 0) (av 2)))))))
/-! is_instruction -/
abbrev s_is_instruction : Stmt := topS 12
abbrev N_is_instruction : List Str := ["value", "places", "word", "number"]
theorem sc_is_instruction : FnScope N_is_instruction ["value", "places"] (defScope s_is_instruction) := ⟨rfl, rfl, rfl, by decide +kernel, rfl, by decide +kernel, by decide +kernel⟩
def A_is_instruction : AF := fnA 4 (fSeq
    (fIfS (fOr (fNot (fTst (fCB (oIsi "tuple") (fCons (fVar 0) (fCons (fC (.con (.ty "tuple"))) fNil))))) (fTst (fBin (oEqD true) (fCB oLen (fCons (fVar 0) fNil)) (fC (.int 2))))) (fRet (fC (.bl false))) fNx)
    (fSeq
    (fAsg (fVar 0) (gTupD 2 (gsCons (gN 2) (gsCons (gN 3) gsNil))))
    (fSeq
    (fIfS (fNot (fTst (fCB (oIsi "str") (fCons (fVar 2) (fCons (fC (.con (.ty "str"))) fNil))))) (fRet (fC (.bl false))) fNx)
    (fSeq
    (fIfS (fTst (fBin (oEqD false) (fVar 2) (fC (.str "jump")))) (fRet (fCall A_is_number (fCons (fVar 3) (fCons (fC (.int 0)) (fCons (fBin oSub (fVar 1) (fC (.int 1))) fNil))))) fNx)
    (fRet (fAndV (fInK t_GREATEST (fVar 2)) (fCall A_is_number (fCons (fVar 3) (fCons (fC (.int 0)) (fCons (fIxK t_GREATEST (fVar 2)) fNil))))))))))
theorem ok_is_instruction {P : Program} {w : World} {K : PySem.W.Frag} {mg : Str → Option Value} {base : Heap} {cl : Nat → Addr} {f : Addr} {fd : FuncData} (n_isinstance : mg "isinstance" = none) (n_tuple : mg "tuple" = none) (n_len : mg "len" = none) (n_str : mg "str" = none) (h_is_number : CallOk P w K mg base cl "is_number" 1 3 A_is_number) (k_GREATEST : KTab K w mg "GREATEST" t_GREATEST) (F : Fun K "is_instruction" "is_instruction" s_is_instruction f fd) : FnOk P w K mg base CX0 2 f fd ["value", "places"] (cF K cl 2 A_is_instruction) :=
  fn_ok (N := N_is_instruction) (k := 1) F sc_is_instruction fun cdv A outer s H E hr =>
    (ss_cons
    (s_if (a_tw (w_or (a_tnot (a_tval (a_isi n_isinstance n_tuple (by decide +kernel) (av 0)))) (w_or1 (a_tcmp (op_neD hr.units) opa_neD (a_len n_len (av 0)) a_int)))) (ss_one (s_ret a_bl)) ss_nil)
    (ss_cons
    (s_asg (av 0) (t_tup rfl (ts_cons (t_name sc_is_instruction.nd) (ts_cons (t_name sc_is_instruction.nd) ts_nil))))
    (ss_cons
    (s_if (a_tnot (a_tval (a_isi n_isinstance n_str (by decide +kernel) (av 2)))) (ss_one (s_ret a_bl)) ss_nil)
    (ss_cons
    (s_if (a_tcmp (op_eqD hr.units) opa_eqD (av 2) a_str) (ss_one (s_ret (a_callO h_is_number hr (g_cons (av 3) (g_cons a_int (g_cons (a_sub (av 1) a_int) g_nil)))))) ss_nil)
    (ss_one (s_ret (a_and (a_inK k_GREATEST (av 2)) (a_one (a_callO h_is_number hr (g_cons (av 3) (g_cons a_int (g_cons (a_ixK k_GREATEST (av 2)) g_nil))))))))))))
/-! is_code -/
abbrev s_is_code : Stmt := topS 11
abbrev N_is_code : List Str := ["value", "least", "most", "item"]
theorem sc_is_code : FnScope N_is_code ["value", "least", "most"] (defScope s_is_code) := ⟨rfl, rfl, rfl, by decide +kernel, rfl, by decide +kernel, by decide +kernel⟩
def A_is_code : AF := fnA 4 (fSeq
    (fIfS (fOr (fNot (fTst (fCB (oIsi "tuple") (fCons (fVar 0) (fCons (fC (.con (.ty "tuple"))) fNil))))) (fNot (fTst (fChain oLe oLe (fVar 1) (fCB oLen (fCons (fVar 0) fNil)) (fVar 2))))) (fRet (fC (.bl false))) fNx)
    (fRet (fCB (oAll true) (fCons (fLc (fItSeq (fVar 0)) (gN 3) tYesA (fCall A_is_instruction (fCons (fVar 3) (fCons (fCB oLen (fCons (fVar 0) fNil)) fNil))) [3]) fNil))))
theorem ok_is_code {P : Program} {w : World} {K : PySem.W.Frag} {mg : Str → Option Value} {base : Heap} {cl : Nat → Addr} {f : Addr} {fd : FuncData} (n_isinstance : mg "isinstance" = none) (n_tuple : mg "tuple" = none) (n_len : mg "len" = none) (h_is_instruction : CallOk P w K mg base cl "is_instruction" 2 2 A_is_instruction) (n_all : mg "all" = none) (F : Fun K "is_code" "is_code" s_is_code f fd) : FnOk P w K mg base CX0 3 f fd ["value", "least", "most"] (cF K cl 3 A_is_code) :=
  fn_ok (N := N_is_code) (k := 2) F sc_is_code fun cdv A outer s H E hr =>
    (ss_cons
    (s_if (a_tw (w_or (a_tnot (a_tval (a_isi n_isinstance n_tuple (by decide +kernel) (av 0)))) (w_or1 (a_tnot (a_tchain op_le opa_le op_le opa_le (av 1) (a_len n_len (av 0)) (av 2)))))) (ss_one (s_ret a_bl)) ss_nil)
    (ss_one (s_ret (a_all n_all rfl (a_lc (own := [("item", 3)]) rfl sc_is_code.nd (i_seq (av 0)) (blkOk_by (N := N_is_code) (sc := defScope s_is_code) (by decide +kernel)) (ct_name (by decide)) (fun _ _ _ _ _ => (pg_name (i := 3) sc_is_code.nd rfl (Or.inl rfl))) (fun _ _ _ _ _ => pts0) (fun _ _ _ _ _ => (a_callO h_is_instruction hr (g_cons (av 3) (g_cons (a_len n_len (av 0)) g_nil)))))))))
/-! are_threads -/
abbrev s_are_threads : Stmt := topS 10
abbrev N_are_threads : List Str := ["value", "thread"]
theorem sc_are_threads : FnScope N_are_threads ["value"] (defScope s_are_threads) := ⟨rfl, rfl, rfl, by decide +kernel, rfl, by decide +kernel, by decide +kernel⟩
def A_are_threads : AF := fnA 2 (fSeq
    (fIfS (fOr (fNot (fTst (fCB (oIsi "tuple") (fCons (fVar 0) (fCons (fC (.con (.ty "tuple"))) fNil))))) (fNot (fTst (fChain oLe oLe (fC (.int 1)) (fCB oLen (fCons (fVar 0) fNil)) (fC (.int 3)))))) (fRet (fC (.bl false))) fNx)
    (fRet (fCB (oAll true) (fCons (fLc (fItSeq (fVar 0)) (gN 1) tYesA (fCall A_is_code (fCons (fVar 1) (fCons (fC (.int 1)) (fCons (fC (.int 5)) fNil)))) [1]) fNil))))
theorem ok_are_threads {P : Program} {w : World} {K : PySem.W.Frag} {mg : Str → Option Value} {base : Heap} {cl : Nat → Addr} {f : Addr} {fd : FuncData} (n_isinstance : mg "isinstance" = none) (n_tuple : mg "tuple" = none) (n_len : mg "len" = none) (h_is_code : CallOk P w K mg base cl "is_code" 3 3 A_is_code) (n_all : mg "all" = none) (F : Fun K "are_threads" "are_threads" s_are_threads f fd) : FnOk P w K mg base CX0 4 f fd ["value"] (cF K cl 1 A_are_threads) :=
  fn_ok (N := N_are_threads) (k := 3) F sc_are_threads fun cdv A outer s H E hr =>
    (ss_cons
    (s_if (a_tw (w_or (a_tnot (a_tval (a_isi n_isinstance n_tuple (by decide +kernel) (av 0)))) (w_or1 (a_tnot (a_tchain op_le opa_le op_le opa_le a_int (a_len n_len (av 0)) a_int))))) (ss_one (s_ret a_bl)) ss_nil)
    (ss_one (s_ret (a_all n_all rfl (a_lc (own := [("thread", 1)]) rfl sc_are_threads.nd (i_seq (av 0)) (blkOk_by (N := N_are_threads) (sc := defScope s_are_threads) (by decide +kernel)) (ct_name (by decide)) (fun _ _ _ _ _ => (pg_name (i := 1) sc_are_threads.nd rfl (Or.inl rfl))) (fun _ _ _ _ _ => pts0) (fun _ _ _ _ _ => (a_callO h_is_code hr (g_cons (av 1) (g_cons a_int (g_cons a_int g_nil))))))))))
/-! is_kinds_of -/
abbrev s_is_kinds_of : Stmt := topS 13
abbrev N_is_kinds_of : List Str := ["among", "value", "kind"]
theorem sc_is_kinds_of : FnScope N_is_kinds_of ["among", "value"] (defScope s_is_kinds_of) := ⟨rfl, rfl, rfl, by decide +kernel, rfl, by decide +kernel, by decide +kernel⟩
def A_is_kinds_of : AF := fnA 3 (fSeq
    (fIfS (fOr (fNot (fTst (fCB (oIsi "tuple") (fCons (fVar 1) (fCons (fC (.con (.ty "tuple"))) fNil))))) (fNot (fTst (fCB (oAll true) (fCons (fLc (fItSeq (fVar 1)) (gN 2) tYesA (fCB (oIsi "str") (fCons (fVar 2) (fCons (fC (.con (.ty "str"))) fNil))) [2]) fNil))))) (fRet (fC (.bl false))) fNx)
    (fRet (fBin (oEqD false) (fVar 1) (fCB oTuple (fCons (fLc (fItSeq (fVar 0)) (gN 2) (fTst (fBin (oIn false) (fVar 2) (fVar 1))) (fVar 2) [2]) fNil)))))
theorem ok_is_kinds_of {P : Program} {w : World} {K : PySem.W.Frag} {mg : Str → Option Value} {base : Heap} {cl : Nat → Addr} {f : Addr} {fd : FuncData} (n_isinstance : mg "isinstance" = none) (n_tuple : mg "tuple" = none) (n_str : mg "str" = none) (n_all : mg "all" = none) (F : Fun K "is_kinds_of" "is_kinds_of" s_is_kinds_of f fd) : FnOk P w K mg base CX0 1 f fd ["among", "value"] (cF K cl 2 A_is_kinds_of) :=
  fn_ok (N := N_is_kinds_of) (k := 0) F sc_is_kinds_of fun cdv A outer s H E hr =>
    (ss_cons
    (s_if (a_tw (w_or (a_tnot (a_tval (a_isi n_isinstance n_tuple (by decide +kernel) (av 1)))) (w_or1 (a_tnot (a_tval (a_all n_all rfl (a_lc (own := [("kind", 2)]) rfl sc_is_kinds_of.nd (i_seq (av 1)) (blkOk_by (N := N_is_kinds_of) (sc := defScope s_is_kinds_of) (by decide +kernel)) (ct_name (by decide)) (fun _ _ _ _ _ => (pg_name (i := 2) sc_is_kinds_of.nd rfl (Or.inl rfl))) (fun _ _ _ _ _ => pts0) (fun _ _ _ _ _ => (a_isi n_isinstance n_str (by decide +kernel) (av 2)))))))))) (ss_one (s_ret a_bl)) ss_nil)
    (ss_one (s_ret (a_cmp (op_eqD hr.units) opa_eqD (av 1) (a_tuple n_tuple (a_lc (own := [("kind", 2)]) rfl sc_is_kinds_of.nd (i_seq (av 0)) (blkOk_by (N := N_is_kinds_of) (sc := defScope s_is_kinds_of) (by decide +kernel)) (ct_name (by decide)) (fun _ _ _ _ _ => (pg_name (i := 2) sc_is_kinds_of.nd rfl (Or.inl rfl))) (fun _ _ _ _ _ => (pts1 (a_tcmp op_in_seq opa_in (av 2) (av 1)))) (fun _ _ _ _ _ => (av 2))))))))
/-! Scheme.__init__ -/
abbrev s_Scheme_init : Stmt := inClass (topS 8) 0
abbrev N_Scheme_init : List Str := ["self", "threads", "handler", "kinds"]
theorem sc_Scheme_init : FnScope N_Scheme_init ["self", "threads", "handler", "kinds"] (defScope s_Scheme_init) := ⟨rfl, rfl, rfl, by decide +kernel, rfl, by decide +kernel, by decide +kernel⟩
def A_Scheme_init : AF := fnA 4 (fSeq
    (fIfS (fNot (fTst (fCall A_are_threads (fCons (fVar 1) fNil)))) fNever fNx)
    (fSeq
    (fIfS (fNot (fTst (fCall A_is_code (fCons (fVar 2) (fCons (fC (.int 0)) (fCons (fC (.int 3)) fNil)))))) fNever fNx)
    (fSeq
    (fIfS (fNot (fTst (fCall A_is_kinds_of (fCons (fC c_ALL_KINDS) (fCons (fVar 3) fNil))))) fNever fNx)
    (fSeq
    (fFldS [0] "_threads" (fVar 0) (fVar 1))
    (fSeq
    (fFldS [0] "_handler" (fVar 0) (fVar 2))
    (fFldS [0] "_kinds" (fVar 0) (fVar 3)))))))
theorem ok_Scheme_init {P : Program} {w : World} {K : PySem.W.Frag} {mg : Str → Option Value} {base : Heap} {cl : Nat → Addr} {f : Addr} {fd : FuncData} (h_are_threads : CallOk P w K mg base cl "are_threads" 4 1 A_are_threads) (h_is_code : CallOk P w K mg base cl "is_code" 3 3 A_is_code) (g_ALL_KINDS : Glo K mg "ALL_KINDS" c_ALL_KINDS) (h_is_kinds_of : CallOk P w K mg base cl "is_kinds_of" 1 2 A_is_kinds_of) (t_threads : Atr K cl [0] "_threads") (t_handler : Atr K cl [0] "_handler") (t_kinds : Atr K cl [0] "_kinds") (F : Fun K "__init__" "Scheme.__init__" s_Scheme_init f fd) : FnOk P w K mg base CX0 5 f fd ["self", "threads", "handler", "kinds"] (cF K cl 4 A_Scheme_init) :=
  fn_ok (N := N_Scheme_init) (k := 4) F sc_Scheme_init fun cdv A outer s H E hr =>
    (ss_cons
    (s_if (a_tnot (a_tval (a_callO h_are_threads hr (g_cons (av 1) g_nil)))) (ss_one s_never) ss_nil)
    (ss_cons
    (s_if (a_tnot (a_tval (a_callO h_is_code hr (g_cons (av 2) (g_cons a_int (g_cons a_int g_nil)))))) (ss_one s_never) ss_nil)
    (ss_cons
    (s_if (a_tnot (a_tval (a_callO h_is_kinds_of hr (g_cons (a_glob g_ALL_KINDS) (g_cons (av 3) g_nil))))) (ss_one s_never) ss_nil)
    (ss_cons
    (s_fld t_threads (av 0) (av 1))
    (ss_cons
    (s_fld t_handler (av 0) (av 2))
    (ss_one (s_fld t_kinds (av 0) (av 3))))))))
/-! _law_pick -/
abbrev s__law_pick : Stmt := topS 44
abbrev N__law_pick : List Str := ["_law_draw_here", "_law_things"]
theorem sc__law_pick : FnScope N__law_pick ["_law_draw_here", "_law_things"] (defScope s__law_pick) := ⟨rfl, rfl, rfl, by decide +kernel, rfl, by decide +kernel, by decide +kernel⟩
def A__law_pick : AF := fnA 2 (fRet (fBin oIx (fVar 1) (fCall A__law_next (fCons (fVar 0) (fCons (fCB oLen (fCons (fVar 1) fNil)) fNil)))))
theorem ok__law_pick {P : Program} {w : World} {K : PySem.W.Frag} {mg : Str → Option Value} {base : Heap} {cl : Nat → Addr} {f : Addr} {fd : FuncData} (n_len : mg "len" = none) (h__law_next : CallOk P w K mg base cl "_law_next" 3 2 A__law_next) (F : Fun K "_law_pick" "_law_pick" s__law_pick f fd) : FnOk P w K mg base CX0 4 f fd ["_law_draw_here", "_law_things"] (cF K cl 2 A__law_pick) :=
  fn_ok (N := N__law_pick) (k := 3) F sc__law_pick fun cdv A outer s H E hr =>
    (ss_one (s_ret (a_ix (av 1) (a_callO h__law_next hr (g_cons (av 0) (g_cons (a_len n_len (av 1)) g_nil))))))
/-! _law_instruction -/
abbrev s__law_instruction : Stmt := topS 45
abbrev N__law_instruction : List Str := ["_law_draw_here", "_law_many", "_law_word"]
theorem sc__law_instruction : FnScope N__law_instruction ["_law_draw_here", "_law_many"] (defScope s__law_instruction) := ⟨rfl, rfl, rfl, by decide +kernel, rfl, by decide +kernel, by decide +kernel⟩
def A__law_instruction : AF := fnA 3 (fSeq
    (fAsg (fCall A__law_pick (fCons (fVar 0) (fCons (fLst (fCons (fC (.str "set")) (fCons (fC (.str "load")) (fCons (fC (.str "add")) (fCons (fC (.str "save")) (fCons (fC (.str "first")) (fCons (fC (.str "jump")) (fCons (fC (.str "show")) (fCons (fC (.str "show")) (fCons (fC (.str "time")) (fCons (fC (.str "take")) (fCons (fC (.str "count")) (fCons (fC (.str "spilt")) (fCons (fC (.str "call")) (fCons (fC (.str "save")) (fCons (fC (.str "load")) (fCons (fC (.str "shut")) (fCons (fC (.str "open")) (fCons (fC (.str "show")) fNil))))))))))))))))))) fNil))) (gN 2))
    (fSeq
    (fIfS (fTst (fBin (oIn false) (fVar 2) (fTup (fCons (fC (.str "load")) (fCons (fC (.str "add")) (fCons (fC (.str "save")) (fCons (fC (.str "first")) fNil))))))) (fRet (fTup (fCons (fVar 2) (fCons (fBin oAdd (fCall A__law_next (fCons (fVar 0) (fCons (fC (.int 2)) fNil))) (fCall A__law_next (fCons (fVar 0) (fCons (fC (.int 2)) fNil)))) fNil)))) fNx)
    (fSeq
    (fIfS (fTst (fBin (oEqD false) (fVar 2) (fC (.str "set")))) (fRet (fTup (fCons (fVar 2) (fCons (fCall A__law_next (fCons (fVar 0) (fCons (fC (.int 3)) fNil))) fNil)))) fNx)
    (fRet (fTup (fCons (fVar 2) (fCons (fIf (fTst (fBin (oEqD false) (fVar 2) (fC (.str "jump")))) (fCall A__law_next (fCons (fVar 0) (fCons (fVar 1) fNil))) (fC (.int 0))) fNil)))))))
theorem ok__law_instruction {P : Program} {w : World} {K : PySem.W.Frag} {mg : Str → Option Value} {base : Heap} {cl : Nat → Addr} {f : Addr} {fd : FuncData} (h__law_pick : CallOk P w K mg base cl "_law_pick" 4 2 A__law_pick) (h__law_next : CallOk P w K mg base cl "_law_next" 3 2 A__law_next) (F : Fun K "_law_instruction" "_law_instruction" s__law_instruction f fd) : FnOk P w K mg base CX0 5 f fd ["_law_draw_here", "_law_many"] (cF K cl 2 A__law_instruction) :=
  fn_ok (N := N__law_instruction) (k := 4) F sc__law_instruction fun cdv A outer s H E hr =>
    (ss_cons
    (s_set sc__law_instruction.nd (a_callO h__law_pick hr (g_cons (av 0) (g_cons (a_lst (g_cons a_str (g_cons a_str (g_cons a_str (g_cons a_str (g_cons a_str (g_cons a_str (g_cons a_str (g_cons a_str (g_cons a_str (g_cons a_str (g_cons a_str (g_cons a_str (g_cons a_str (g_cons a_str (g_cons a_str (g_cons a_str (g_cons a_str (g_cons a_str g_nil))))))))))))))))))) g_nil))))
    (ss_cons
    (s_if (a_tcmp op_in_seq opa_in (av 2) (a_tup (g_cons a_str (g_cons a_str (g_cons a_str (g_cons a_str g_nil)))))) (ss_one (s_ret (a_tup (g_cons (av 2) (g_cons (a_add (a_callO h__law_next hr (g_cons (av 0) (g_cons a_int g_nil))) (a_callO h__law_next hr (g_cons (av 0) (g_cons a_int g_nil)))) g_nil))))) ss_nil)
    (ss_cons
    (s_if (a_tcmp (op_eqD hr.units) opa_eqD (av 2) a_str) (ss_one (s_ret (a_tup (g_cons (av 2) (g_cons (a_callO h__law_next hr (g_cons (av 0) (g_cons a_int g_nil))) g_nil))))) ss_nil)
    (ss_one (s_ret (a_tup (g_cons (av 2) (g_cons (a_if (a_tcmp (op_eqD hr.units) opa_eqD (av 2) a_str) (a_callO h__law_next hr (g_cons (av 0) (g_cons (av 1) g_nil))) a_int) g_nil))))))))
/-! _law_code -/
abbrev s__law_code : Stmt := topS 46
abbrev N__law_code : List Str := ["_law_draw_here", "_law_least", "_law_most", "_law_many", "_law_turn"]
theorem sc__law_code : FnScope N__law_code ["_law_draw_here", "_law_least", "_law_most"] (defScope s__law_code) := ⟨rfl, rfl, rfl, by decide +kernel, rfl, by decide +kernel, by decide +kernel⟩
def A__law_code : AF := fnA 5 (fSeq
    (fAsg (fBin oAdd (fVar 1) (fCall A__law_next (fCons (fVar 0) (fCons (fBin oAdd (fBin oSub (fVar 2) (fVar 1)) (fC (.int 1))) fNil)))) (gN 3))
    (fRet (fCB oTuple (fCons (fLc (fRng1 (fCons (fVar 3) fNil)) (gN 4) tYesA (fCall A__law_instruction (fCons (fVar 0) (fCons (fVar 3) fNil))) [4]) fNil))))
theorem ok__law_code {P : Program} {w : World} {K : PySem.W.Frag} {mg : Str → Option Value} {base : Heap} {cl : Nat → Addr} {f : Addr} {fd : FuncData} (h__law_next : CallOk P w K mg base cl "_law_next" 3 2 A__law_next) (n_range : mg "range" = none) (h__law_instruction : CallOk P w K mg base cl "_law_instruction" 5 2 A__law_instruction) (n_tuple : mg "tuple" = none) (F : Fun K "_law_code" "_law_code" s__law_code f fd) : FnOk P w K mg base CX0 6 f fd ["_law_draw_here", "_law_least", "_law_most"] (cF K cl 3 A__law_code) :=
  fn_ok (N := N__law_code) (k := 5) F sc__law_code fun cdv A outer s H E hr =>
    (ss_cons
    (s_set sc__law_code.nd (a_add (av 1) (a_callO h__law_next hr (g_cons (av 0) (g_cons (a_add (a_sub (av 2) (av 1)) a_int) g_nil)))))
    (ss_one (s_ret (a_tuple n_tuple (a_lc (own := [("_law_turn", 4)]) rfl sc__law_code.nd (i_range1 n_range (g_cons (av 3) g_nil)) (blkOk_by (N := N__law_code) (sc := defScope s__law_code) (by decide +kernel)) (ct_name (by decide)) (fun _ _ _ _ _ => (pg_name (i := 4) sc__law_code.nd rfl (Or.inl rfl))) (fun _ _ _ _ _ => pts0) (fun _ _ _ _ _ => (a_callO h__law_instruction hr (g_cons (av 0) (g_cons (av 3) g_nil)))))))))
/-! _law_scheme -/
abbrev s__law_scheme : Stmt := topS 47
abbrev N__law_scheme : List Str := ["_law_draw_here", "_law_threads", "_law_most", "_law_sorts", "_law_codes", "_law_turn"]
theorem sc__law_scheme : FnScope N__law_scheme ["_law_draw_here", "_law_threads", "_law_most", "_law_sorts"] (defScope s__law_scheme) := ⟨rfl, rfl, rfl, by decide +kernel, rfl, by decide +kernel, by decide +kernel⟩
def A__law_scheme : AF := fnA 6 (fSeq
    (fAsg (fLst fNil) (gN 4))
    (fSeq
    (fFor (fRng1 (fCons (fBin oAdd (fC (.int 1)) (fCall A__law_next (fCons (fVar 0) (fCons (fVar 1) fNil)))) fNil)) (gN 5) (fDrop (fApp (fVar 4) (fCall A__law_code (fCons (fVar 0) (fCons (fC (.int 1)) (fCons (fVar 2) fNil)))))))
    (fRet (fMakeK 0 1 2 gD_Scheme A_Scheme_init (fCons (fCB oTuple (fCons (fVar 4) fNil)) fNil) (fCons (fCall A__law_code (fCons (fVar 0) (fCons (fC (.int 0)) (fCons (fC (.int 3)) fNil)))) (fCons (fVar 3) fNil))))))
theorem ok__law_scheme {P : Program} {w : World} {K : PySem.W.Frag} {mg : Str → Option Value} {base : Heap} {cl : Nat → Addr} {f : Addr} {fd : FuncData} (h__law_next : CallOk P w K mg base cl "_law_next" 3 2 A__law_next) (n_range : mg "range" = none) (h__law_code : CallOk P w K mg base cl "_law_code" 6 3 A__law_code) (n_tuple : mg "tuple" = none) (mk_Scheme : MakeKOk P w K mg base cl 0 "Scheme" ["handler", "kinds"] 5 1 4 gD_Scheme A_Scheme_init) (F : Fun K "_law_scheme" "_law_scheme" s__law_scheme f fd) : FnOk P w K mg base CX0 7 f fd ["_law_draw_here", "_law_threads", "_law_most", "_law_sorts"] (cF K cl 4 A__law_scheme) :=
  fn_ok (N := N__law_scheme) (k := 6) F sc__law_scheme fun cdv A outer s H E hr =>
    (ss_cons
    (s_set sc__law_scheme.nd (a_lst g_nil))
    (ss_cons
    (s_for PassesOwn.never rfl (i_range1 n_range (g_cons (a_add a_int (a_callO h__law_next hr (g_cons (av 0) (g_cons (av 1) g_nil)))) g_nil)) (t_name sc__law_scheme.nd) (ss_one (s_expr (a_append (av 4) (a_callO h__law_code hr (g_cons (av 0) (g_cons a_int (g_cons (av 2) g_nil)))) (fun _ _ ho ha => pe_bm PySem.F.plainAttrs_list PySem.F.slot_list_append PySem.F.type_list_append mt_append ho ha)))))
    (ss_one (s_ret (a_makeKO mk_Scheme hr (g_cons (a_tuple n_tuple (av 4)) g_nil) (k_cons (a_callO h__law_code hr (g_cons (av 0) (g_cons a_int (g_cons a_int g_nil)))) (k_cons (av 3) k_nil)))))))
/-! Scheme.kinds -/
abbrev s_Scheme_kinds : Stmt := inClass (topS 8) 3
abbrev N_Scheme_kinds : List Str := ["self"]
theorem sc_Scheme_kinds : FnScope N_Scheme_kinds ["self"] (defScope s_Scheme_kinds) := ⟨rfl, rfl, rfl, by decide +kernel, rfl, by decide +kernel, by decide +kernel⟩
def A_Scheme_kinds : AF := fnA 1 (fRet (fFld [0] "_kinds" (fVar 0)))
theorem ok_Scheme_kinds {P : Program} {w : World} {K : PySem.W.Frag} {mg : Str → Option Value} {base : Heap} {cl : Nat → Addr} {f : Addr} {fd : FuncData} (t_kinds : Atr K cl [0] "_kinds") (F : Fun K "kinds" "Scheme.kinds" s_Scheme_kinds f fd) : FnOk P w K mg base CX0 1 f fd ["self"] (cF K cl 1 A_Scheme_kinds) :=
  fn_ok (N := N_Scheme_kinds) (k := 0) F sc_Scheme_kinds fun cdv A outer s H E hr =>
    (ss_one (s_ret (a_fld t_kinds (av 0))))
/-! check_scheme -/
abbrev s_check_scheme : Stmt := topS 14
abbrev N_check_scheme : List Str := ["scheme"]
theorem sc_check_scheme : FnScope N_check_scheme ["scheme"] (defScope s_check_scheme) := ⟨rfl, rfl, rfl, by decide +kernel, rfl, by decide +kernel, by decide +kernel⟩
def A_check_scheme : AF := fnA 1 (fIfS (fNot (fTst (fIsC 0 (fVar 0)))) fNever fNx)
theorem ok_check_scheme {P : Program} {w : World} {K : PySem.W.Frag} {mg : Str → Option Value} {base : Heap} {cl : Nat → Addr} {f : Addr} {fd : FuncData} (n_isinstance : mg "isinstance" = none) (i_Scheme : C8.InsC K (cl 0)) (mc_Scheme : mg "Scheme" = some (.ref (cl 0))) (F : Fun K "check_scheme" "check_scheme" s_check_scheme f fd) : FnOk P w K mg base CX0 1 f fd ["scheme"] (cF K cl 1 A_check_scheme) :=
  fn_ok (N := N_check_scheme) (k := 0) F sc_check_scheme fun cdv A outer s H E hr =>
    (ss_one (s_if (a_tnot (a_tval (a_isC i_Scheme mc_Scheme n_isinstance (av 0)))) (ss_one s_never) ss_nil))
/-! has_parts -/
abbrev s_has_parts : Stmt := topS 16
abbrev N_has_parts : List Str := ["value", "rings", "alarms", "ticks", "word", "result", "first", "part"]
theorem sc_has_parts : FnScope N_has_parts ["value"] (defScope s_has_parts) := ⟨rfl, rfl, rfl, by decide +kernel, rfl, by decide +kernel, by decide +kernel⟩
def A_has_parts : AF := fnA 8 (fSeq
    (fIfS (fOr (fNot (fTst (fCB (oIsi "tuple") (fCons (fVar 0) (fCons (fC (.con (.ty "tuple"))) fNil))))) (fTst (fBin (oEqD true) (fCB oLen (fCons (fVar 0) fNil)) (fCB oLen (fCons (fC c_QUIET) fNil))))) (fRet (fC (.bl false))) fNx)
    (fSeq
    (fAsg (fVar 0) (gTupD 6 (gsCons (gN 1) (gsCons (gN 2) (gsCons (gN 3) (gsCons (gN 4) (gsCons (gN 5) (gsCons (gN 6) gsNil))))))))
    (fSeq
    (fIfS (fNot (fTst (fCB (oAll true) (fCons (fLc (fItSeq (fTup (fCons (fVar 1) (fCons (fVar 2) (fCons (fVar 3) fNil))))) (gN 7) tYesA (fCB (oIsi "bool") (fCons (fVar 7) (fCons (fC (.con (.ty "bool"))) fNil))) [7]) fNil)))) (fRet (fC (.bl false))) fNx)
    (fSeq
    (fIfS (fAnd (fTst (fBin (oIsN true) (fVar 4) (fC .non))) (fNot (fTst (fCall A_is_number (fCons (fVar 4) (fCons (fC (.int 1)) (fCons (fC (.int 2)) fNil))))))) (fRet (fC (.bl false))) fNx)
    (fRet (fAndV (fCall A_is_number (fCons (fVar 5) (fCons (fC (.int 0)) (fCons (fC (.int 2)) fNil)))) (fCall A_is_number (fCons (fVar 6) (fCons (fC (.int 0)) (fCons (fC (.int 2)) fNil))))))))))
theorem ok_has_parts {P : Program} {w : World} {K : PySem.W.Frag} {mg : Str → Option Value} {base : Heap} {cl : Nat → Addr} {f : Addr} {fd : FuncData} (n_isinstance : mg "isinstance" = none) (n_tuple : mg "tuple" = none) (n_len : mg "len" = none) (g_QUIET : Glo K mg "QUIET" c_QUIET) (n_bool : mg "bool" = none) (n_all : mg "all" = none) (h_is_number : CallOk P w K mg base cl "is_number" 1 3 A_is_number) (F : Fun K "has_parts" "has_parts" s_has_parts f fd) : FnOk P w K mg base CX0 2 f fd ["value"] (cF K cl 1 A_has_parts) :=
  fn_ok (N := N_has_parts) (k := 1) F sc_has_parts fun cdv A outer s H E hr =>
    (ss_cons
    (s_if (a_tw (w_or (a_tnot (a_tval (a_isi n_isinstance n_tuple (by decide +kernel) (av 0)))) (w_or1 (a_tcmp (op_neD hr.units) opa_neD (a_len n_len (av 0)) (a_len n_len (a_glob g_QUIET)))))) (ss_one (s_ret a_bl)) ss_nil)
    (ss_cons
    (s_asg (av 0) (t_tup rfl (ts_cons (t_name sc_has_parts.nd) (ts_cons (t_name sc_has_parts.nd) (ts_cons (t_name sc_has_parts.nd) (ts_cons (t_name sc_has_parts.nd) (ts_cons (t_name sc_has_parts.nd) (ts_cons (t_name sc_has_parts.nd) ts_nil))))))))
    (ss_cons
    (s_if (a_tnot (a_tval (a_all n_all rfl (a_lc (own := [("part", 7)]) rfl sc_has_parts.nd (i_seq (a_tup (g_cons (av 1) (g_cons (av 2) (g_cons (av 3) g_nil))))) (blkOk_by (N := N_has_parts) (sc := defScope s_has_parts) (by decide +kernel)) (ct_name (by decide)) (fun _ _ _ _ _ => (pg_name (i := 7) sc_has_parts.nd rfl (Or.inl rfl))) (fun _ _ _ _ _ => pts0) (fun _ _ _ _ _ => (a_isi n_isinstance n_bool (by decide +kernel) (av 7))))))) (ss_one (s_ret a_bl)) ss_nil)
    (ss_cons
    (s_if (a_tw (w_and (a_tcmp op_notN opa_notN (av 4) a_non) (w_and1 (a_tnot (a_tval (a_callO h_is_number hr (g_cons (av 4) (g_cons a_int (g_cons a_int g_nil))))))))) (ss_one (s_ret a_bl)) ss_nil)
    (ss_one (s_ret (a_and (a_callO h_is_number hr (g_cons (av 5) (g_cons a_int (g_cons a_int g_nil)))) (a_one (a_callO h_is_number hr (g_cons (av 6) (g_cons a_int (g_cons a_int g_nil))))))))))))
/-! is_world -/
abbrev s_is_world : Stmt := topS 15
abbrev N_is_world : List Str := ["scheme", "value", "can_happen", "parts", "kind", "part", "quiet"]
theorem sc_is_world : FnScope N_is_world ["scheme", "value"] (defScope s_is_world) := ⟨rfl, rfl, rfl, by decide +kernel, rfl, by decide +kernel, by decide +kernel⟩
def A_is_world : AF := fnA 7 (fSeq
    (fDrop (fCall A_check_scheme (fCons (fVar 0) fNil)))
    (fSeq
    (fIfS (fNot (fTst (fCall A_has_parts (fCons (fVar 1) fNil)))) (fRet (fC (.bl false))) fNx)
    (fSeq
    (fAsg (fProp 0 A_Scheme_kinds (fVar 0)) (gN 2))
    (fSeq
    (fAsg (fZip3 (fCons (fC c_ALL_KINDS) (fCons (fVar 1) (fCons (fC c_QUIET) fNil)))) (gN 3))
    (fRet (fCB (oAll true) (fCons (fLc (fItSeq (fVar 3)) (gTupD 3 (gsCons (gN 4) (gsCons (gN 5) (gsCons (gN 6) gsNil)))) (fTst (fBin (oIn true) (fVar 4) (fVar 2))) (fBin (oEqD false) (fVar 5) (fVar 6)) [4, 5, 6]) fNil)))))))
theorem ok_is_world {P : Program} {w : World} {K : PySem.W.Frag} {mg : Str → Option Value} {base : Heap} {cl : Nat → Addr} {f : Addr} {fd : FuncData} (h_check_scheme : CallOk P w K mg base cl "check_scheme" 1 1 A_check_scheme) (h_has_parts : CallOk P w K mg base cl "has_parts" 2 1 A_has_parts) (p_Scheme_kinds : PropOk P w K mg base cl 0 "kinds" 1 A_Scheme_kinds) (g_QUIET : Glo K mg "QUIET" c_QUIET) (g_ALL_KINDS : Glo K mg "ALL_KINDS" c_ALL_KINDS) (n_list : mg "list" = none) (n_zip : mg "zip" = none) (n_all : mg "all" = none) (F : Fun K "is_world" "is_world" s_is_world f fd) : FnOk P w K mg base CX0 3 f fd ["scheme", "value"] (cF K cl 2 A_is_world) :=
  fn_ok (N := N_is_world) (k := 2) F sc_is_world fun cdv A outer s H E hr =>
    (ss_cons
    (s_expr (a_callO h_check_scheme hr (g_cons (av 0) g_nil)))
    (ss_cons
    (s_if (a_tnot (a_tval (a_callO h_has_parts hr (g_cons (av 1) g_nil)))) (ss_one (s_ret a_bl)) ss_nil)
    (ss_cons
    (s_set sc_is_world.nd (a_propO p_Scheme_kinds hr (av 0)))
    (ss_cons
    (s_set sc_is_world.nd (a_zip3 n_list n_zip (g_cons (a_glob g_ALL_KINDS) (g_cons (av 1) (g_cons (a_glob g_QUIET) g_nil)))))
    (ss_one (s_ret (a_all n_all rfl (a_lc (own := [("kind", 4), ("part", 5), ("quiet", 6)]) rfl sc_is_world.nd (i_seq (av 3)) (blkOk_by (N := N_is_world) (sc := defScope s_is_world) (by decide +kernel)) (ct_tup (cts_cons (ct_name (by decide)) (cts_cons (ct_name (by decide)) (cts_cons (ct_name (by decide)) cts_nil)))) (fun _ _ _ _ _ => (pg_tup rfl (pgs_cons (pg_name (i := 4) sc_is_world.nd rfl (Or.inl rfl)) (pgs_cons (pg_name (i := 5) sc_is_world.nd rfl (Or.inl rfl)) (pgs_cons (pg_name (i := 6) sc_is_world.nd rfl (Or.inl rfl)) pgs_nil))))) (fun _ _ _ _ _ => (pts1 (a_tcmp op_notIn_seq opa_in (av 4) (av 2)))) (fun _ _ _ _ _ => (a_cmp (op_eqD hr.units) opa_eqD (av 5) (av 6)))))))))))
/-! Scheme.threads -/
abbrev s_Scheme_threads : Stmt := inClass (topS 8) 1
abbrev N_Scheme_threads : List Str := ["self"]
theorem sc_Scheme_threads : FnScope N_Scheme_threads ["self"] (defScope s_Scheme_threads) := ⟨rfl, rfl, rfl, by decide +kernel, rfl, by decide +kernel, by decide +kernel⟩
def A_Scheme_threads : AF := fnA 1 (fRet (fFld [0] "_threads" (fVar 0)))
theorem ok_Scheme_threads {P : Program} {w : World} {K : PySem.W.Frag} {mg : Str → Option Value} {base : Heap} {cl : Nat → Addr} {f : Addr} {fd : FuncData} (t_threads : Atr K cl [0] "_threads") (F : Fun K "threads" "Scheme.threads" s_Scheme_threads f fd) : FnOk P w K mg base CX0 1 f fd ["self"] (cF K cl 1 A_Scheme_threads) :=
  fn_ok (N := N_Scheme_threads) (k := 0) F sc_Scheme_threads fun cdv A outer s H E hr =>
    (ss_one (s_ret (a_fld t_threads (av 0))))
/-! beginning -/
abbrev s_beginning : Stmt := topS 19
abbrev N_beginning : List Str := ["scheme"]
theorem sc_beginning : FnScope N_beginning ["scheme"] (defScope s_beginning) := ⟨rfl, rfl, rfl, by decide +kernel, rfl, by decide +kernel, by decide +kernel⟩
def A_beginning : AF := fnA 1 (fRet (fTup (fCons (fBin oRepT (fTup (fCons (fTup (fCons (fC (.int 0)) (fCons (fC (.int 0)) fNil))) fNil)) (fCB oLen (fCons (fProp 0 A_Scheme_threads (fVar 0)) fNil))) (fCons (fC (.int 0)) (fCons (fC .non) (fCons (fTup (fCons (fC (.int 0)) (fCons (fC (.int 0)) (fCons (fC (.int 0)) fNil)))) (fCons (fC (.int 0)) (fCons (fTup fNil) (fCons (fC (.bl false)) (fCons (fC (.bl true)) (fCons (fC (.bl false)) fNil)))))))))))
theorem ok_beginning {P : Program} {w : World} {K : PySem.W.Frag} {mg : Str → Option Value} {base : Heap} {cl : Nat → Addr} {f : Addr} {fd : FuncData} (p_Scheme_threads : PropOk P w K mg base cl 0 "threads" 1 A_Scheme_threads) (n_len : mg "len" = none) (F : Fun K "beginning" "beginning" s_beginning f fd) : FnOk P w K mg base CX0 3 f fd ["scheme"] (cF K cl 1 A_beginning) :=
  fn_ok (N := N_beginning) (k := 2) F sc_beginning fun cdv A outer s H E hr =>
    (ss_one (s_ret (a_tup (g_cons (a_repT (a_tup (g_cons (a_tup (g_cons a_int (g_cons a_int g_nil))) g_nil)) (a_len n_len (a_propO p_Scheme_threads hr (av 0)))) (g_cons a_int (g_cons a_non (g_cons (a_tup (g_cons a_int (g_cons a_int (g_cons a_int g_nil)))) (g_cons a_int (g_cons (a_tup g_nil) (g_cons a_bl (g_cons a_bl (g_cons a_bl g_nil))))))))))))
/-! Machine.__init__ -/
abbrev s_Machine_init : Stmt := inClass (topS 30) 0
abbrev N_Machine_init : List Str := ["self", "scheme"]
theorem sc_Machine_init : FnScope N_Machine_init ["self", "scheme"] (defScope s_Machine_init) := ⟨rfl, rfl, rfl, by decide +kernel, rfl, by decide +kernel, by decide +kernel⟩
def A_Machine_init : AF := fnA 2 (fSeq
    (fDrop (fCall A_check_scheme (fCons (fVar 1) fNil)))
    (fSeq
    (fFldS [1] "_scheme" (fVar 0) (fVar 1))
    (fSeq
    (fFldS [1] "_state" (fVar 0) (fCall A_beginning (fCons (fVar 1) fNil)))
    (fFldS [1] "_steps" (fVar 0) (fC (.int 0))))))
theorem ok_Machine_init {P : Program} {w : World} {K : PySem.W.Frag} {mg : Str → Option Value} {base : Heap} {cl : Nat → Addr} {f : Addr} {fd : FuncData} (h_check_scheme : CallOk P w K mg base cl "check_scheme" 1 1 A_check_scheme) (t_scheme : Atr K cl [1] "_scheme") (h_beginning : CallOk P w K mg base cl "beginning" 3 1 A_beginning) (t_state : Atr K cl [1] "_state") (t_steps : Atr K cl [1] "_steps") (F : Fun K "__init__" "Machine.__init__" s_Machine_init f fd) : FnOk P w K mg base CX0 4 f fd ["self", "scheme"] (cF K cl 2 A_Machine_init) :=
  fn_ok (N := N_Machine_init) (k := 3) F sc_Machine_init fun cdv A outer s H E hr =>
    (ss_cons
    (s_expr (a_callO h_check_scheme hr (g_cons (av 1) g_nil)))
    (ss_cons
    (s_fld t_scheme (av 0) (av 1))
    (ss_cons
    (s_fld t_state (av 0) (a_callO h_beginning hr (g_cons (av 1) g_nil)))
    (ss_one (s_fld t_steps (av 0) a_int)))))
/-! Machine.steps -/
abbrev s_Machine_steps : Stmt := inClass (topS 30) 2
abbrev N_Machine_steps : List Str := ["self"]
theorem sc_Machine_steps : FnScope N_Machine_steps ["self"] (defScope s_Machine_steps) := ⟨rfl, rfl, rfl, by decide +kernel, rfl, by decide +kernel, by decide +kernel⟩
def A_Machine_steps : AF := fnA 1 (fRet (fFld [1] "_steps" (fVar 0)))
theorem ok_Machine_steps {P : Program} {w : World} {K : PySem.W.Frag} {mg : Str → Option Value} {base : Heap} {cl : Nat → Addr} {f : Addr} {fd : FuncData} (t_steps : Atr K cl [1] "_steps") (F : Fun K "steps" "Machine.steps" s_Machine_steps f fd) : FnOk P w K mg base CX0 1 f fd ["self"] (cF K cl 1 A_Machine_steps) :=
  fn_ok (N := N_Machine_steps) (k := 0) F sc_Machine_steps fun cdv A outer s H E hr =>
    (ss_one (s_ret (a_fld t_steps (av 0))))
/-! Machine.state -/
abbrev s_Machine_state : Stmt := inClass (topS 30) 3
abbrev N_Machine_state : List Str := ["self"]
theorem sc_Machine_state : FnScope N_Machine_state ["self"] (defScope s_Machine_state) := ⟨rfl, rfl, rfl, by decide +kernel, rfl, by decide +kernel, by decide +kernel⟩
def A_Machine_state : AF := fnA 1 (fRet (fFld [1] "_state" (fVar 0)))
theorem ok_Machine_state {P : Program} {w : World} {K : PySem.W.Frag} {mg : Str → Option Value} {base : Heap} {cl : Nat → Addr} {f : Addr} {fd : FuncData} (t_state : Atr K cl [1] "_state") (F : Fun K "state" "Machine.state" s_Machine_state f fd) : FnOk P w K mg base CX0 1 f fd ["self"] (cF K cl 1 A_Machine_state) :=
  fn_ok (N := N_Machine_state) (k := 0) F sc_Machine_state fun cdv A outer s H E hr =>
    (ss_one (s_ret (a_fld t_state (av 0))))
/-! Scheme.handler -/
abbrev s_Scheme_handler : Stmt := inClass (topS 8) 2
abbrev N_Scheme_handler : List Str := ["self"]
theorem sc_Scheme_handler : FnScope N_Scheme_handler ["self"] (defScope s_Scheme_handler) := ⟨rfl, rfl, rfl, by decide +kernel, rfl, by decide +kernel, by decide +kernel⟩
def A_Scheme_handler : AF := fnA 1 (fRet (fFld [0] "_handler" (fVar 0)))
theorem ok_Scheme_handler {P : Program} {w : World} {K : PySem.W.Frag} {mg : Str → Option Value} {base : Heap} {cl : Nat → Addr} {f : Addr} {fd : FuncData} (t_handler : Atr K cl [0] "_handler") (F : Fun K "handler" "Scheme.handler" s_Scheme_handler f fd) : FnOk P w K mg base CX0 1 f fd ["self"] (cF K cl 1 A_Scheme_handler) :=
  fn_ok (N := N_Scheme_handler) (k := 0) F sc_Scheme_handler fun cdv A outer s H E hr =>
    (ss_one (s_ret (a_fld t_handler (av 0))))
/-! turn -/
abbrev s_turn : Stmt := topS 23
abbrev N_turn : List Str := ["scheme", "state", "threads", "current", "handler", "place", "hand"]
theorem sc_turn : FnScope N_turn ["scheme", "state"] (defScope s_turn) := ⟨rfl, rfl, rfl, by decide +kernel, rfl, by decide +kernel, by decide +kernel⟩
def A_turn : AF := fnA 7 (fSeq
    (fAsg (fSl (fVar 1) fNoP (fPart (fC (.int 3)))) (gTupD 3 (gsCons (gN 2) (gsCons (gN 3) (gsCons (gN 4) gsNil)))))
    (fSeq
    (fIfS (fTst (fBin (oIsN false) (fVar 4) (fC .non))) (fSeq
    (fAsg (fBin oIx (fVar 2) (fVar 3)) (gTupD 2 (gsCons (gN 5) (gsCons (gN 6) gsNil))))
    (fRet (fTup (fCons (fBin oIx (fProp 0 A_Scheme_threads (fVar 0)) (fVar 3)) (fCons (fVar 5) (fCons (fVar 6) fNil)))))) fNx)
    (fSeq
    (fAsg (fVar 4) (gTupD 2 (gsCons (gN 5) (gsCons (gN 6) gsNil))))
    (fRet (fTup (fCons (fProp 0 A_Scheme_handler (fVar 0)) (fCons (fVar 5) (fCons (fVar 6) fNil))))))))
theorem ok_turn {P : Program} {w : World} {K : PySem.W.Frag} {mg : Str → Option Value} {base : Heap} {cl : Nat → Addr} {f : Addr} {fd : FuncData} (p_Scheme_threads : PropOk P w K mg base cl 0 "threads" 1 A_Scheme_threads) (p_Scheme_handler : PropOk P w K mg base cl 0 "handler" 1 A_Scheme_handler) (F : Fun K "turn" "turn" s_turn f fd) : FnOk P w K mg base CX0 3 f fd ["scheme", "state"] (cF K cl 2 A_turn) :=
  fn_ok (N := N_turn) (k := 2) F sc_turn fun cdv A outer s H E hr =>
    (ss_cons
    (s_asg (a_sl (av 1) o_none (o_some a_int)) (t_tup rfl (ts_cons (t_name sc_turn.nd) (ts_cons (t_name sc_turn.nd) (ts_cons (t_name sc_turn.nd) ts_nil)))))
    (ss_cons
    (s_if (a_tcmp op_isN opa_isN (av 4) a_non) (ss_cons
    (s_asg (a_ix (av 2) (av 3)) (t_tup rfl (ts_cons (t_name sc_turn.nd) (ts_cons (t_name sc_turn.nd) ts_nil))))
    (ss_one (s_ret (a_tup (g_cons (a_ix (a_propO p_Scheme_threads hr (av 0)) (av 3)) (g_cons (av 5) (g_cons (av 6) g_nil))))))) ss_nil)
    (ss_cons
    (s_asg (av 4) (t_tup rfl (ts_cons (t_name sc_turn.nd) (ts_cons (t_name sc_turn.nd) ts_nil))))
    (ss_one (s_ret (a_tup (g_cons (a_propO p_Scheme_handler hr (av 0)) (g_cons (av 5) (g_cons (av 6) g_nil)))))))))
/-! place_after -/
abbrev s_place_after : Stmt := topS 25
abbrev N_place_after : List Str := ["instruction", "place", "hand", "word", "number"]
theorem sc_place_after : FnScope N_place_after ["instruction", "place", "hand"] (defScope s_place_after) := ⟨rfl, rfl, rfl, by decide +kernel, rfl, by decide +kernel, by decide +kernel⟩
def A_place_after : AF := fnA 5 (fSeq
    (fAsg (fVar 0) (gTupD 2 (gsCons (gN 3) (gsCons (gN 4) gsNil))))
    (fRet (fIf (fAnd (fTst (fBin (oEqD false) (fVar 3) (fC (.str "jump")))) (fTst (fBin (oEqD false) (fVar 2) (fC (.int 0))))) (fVar 4) (fBin oAdd (fVar 1) (fC (.int 1))))))
theorem ok_place_after {P : Program} {w : World} {K : PySem.W.Frag} {mg : Str → Option Value} {base : Heap} {cl : Nat → Addr} {f : Addr} {fd : FuncData}  (F : Fun K "place_after" "place_after" s_place_after f fd) : FnOk P w K mg base CX0 1 f fd ["instruction", "place", "hand"] (cF K cl 3 A_place_after) :=
  fn_ok (N := N_place_after) (k := 0) F sc_place_after fun cdv A outer s H E hr =>
    (ss_cons
    (s_asg (av 0) (t_tup rfl (ts_cons (t_name sc_place_after.nd) (ts_cons (t_name sc_place_after.nd) ts_nil))))
    (ss_one (s_ret (a_if (a_tw (w_and (a_tcmp (op_eqD hr.units) opa_eqD (av 3) a_str) (w_and1 (a_tcmp (op_eqD hr.units) opa_eqD (av 2) a_int)))) (av 4) (a_add (av 1) a_int)))))
/-! hand_after -/
abbrev s_hand_after : Stmt := topS 26
abbrev N_hand_after : List Str := ["instruction", "hand", "state", "world", "word", "number", "cells", "clock", "words", "lost"]
theorem sc_hand_after : FnScope N_hand_after ["instruction", "hand", "state", "world"] (defScope s_hand_after) := ⟨rfl, rfl, rfl, by decide +kernel, rfl, by decide +kernel, by decide +kernel⟩
def A_hand_after : AF := fnA 10 (fSeq
    (fAsg (fVar 0) (gTupD 2 (gsCons (gN 4) (gsCons (gN 5) gsNil))))
    (fSeq
    (fAsg (fSl (fVar 2) (fPart (fC (.int 3))) (fPart (fC (.int 7)))) (gTupD 4 (gsCons (gN 6) (gsCons (gN 7) (gsCons (gN 8) (gsCons (gN 9) gsNil))))))
    (fSeq
    (fIfS (fTst (fBin (oEqD false) (fVar 4) (fC (.str "set")))) (fRet (fVar 5)) fNx)
    (fSeq
    (fIfS (fTst (fBin (oEqD false) (fVar 4) (fC (.str "load")))) (fRet (fBin oIx (fVar 6) (fVar 5))) fNx)
    (fSeq
    (fIfS (fTst (fBin (oEqD false) (fVar 4) (fC (.str "add")))) (fRet (fBin oMod (fBin oAdd (fVar 1) (fBin oIx (fVar 6) (fVar 5))) (fC (.int 3)))) fNx)
    (fSeq
    (fIfS (fTst (fBin (oEqD false) (fVar 4) (fC (.str "time")))) (fRet (fVar 7)) fNx)
    (fSeq
    (fIfS (fTst (fBin (oEqD false) (fVar 4) (fC (.str "take")))) (fRet (fIf (fTst (fBin oGt (fCB oLen (fCons (fVar 8) fNil)) (fC (.int 0)))) (fBin oIx (fVar 8) (fC (.int 0))) (fC (.int 0)))) fNx)
    (fSeq
    (fIfS (fTst (fBin (oEqD false) (fVar 4) (fC (.str "count")))) (fRet (fCB oLen (fCons (fVar 8) fNil))) fNx)
    (fSeq
    (fIfS (fTst (fBin (oEqD false) (fVar 4) (fC (.str "spilt")))) (fRet (fIf (fTru (fVar 9)) (fC (.int 1)) (fC (.int 0)))) fNx)
    (fSeq
    (fIfS (fTst (fBin (oEqD false) (fVar 4) (fC (.str "call")))) (fRet (fBin oIx (fVar 3) (fC (.int 4)))) fNx)
    (fRet (fVar 1))))))))))))
theorem ok_hand_after {P : Program} {w : World} {K : PySem.W.Frag} {mg : Str → Option Value} {base : Heap} {cl : Nat → Addr} {f : Addr} {fd : FuncData} (n_len : mg "len" = none) (F : Fun K "hand_after" "hand_after" s_hand_after f fd) : FnOk P w K mg base CX0 1 f fd ["instruction", "hand", "state", "world"] (cF K cl 4 A_hand_after) :=
  fn_ok (N := N_hand_after) (k := 0) F sc_hand_after fun cdv A outer s H E hr =>
    (ss_cons
    (s_asg (av 0) (t_tup rfl (ts_cons (t_name sc_hand_after.nd) (ts_cons (t_name sc_hand_after.nd) ts_nil))))
    (ss_cons
    (s_asg (a_sl (av 2) (o_some a_int) (o_some a_int)) (t_tup rfl (ts_cons (t_name sc_hand_after.nd) (ts_cons (t_name sc_hand_after.nd) (ts_cons (t_name sc_hand_after.nd) (ts_cons (t_name sc_hand_after.nd) ts_nil))))))
    (ss_cons
    (s_if (a_tcmp (op_eqD hr.units) opa_eqD (av 4) a_str) (ss_one (s_ret (av 5))) ss_nil)
    (ss_cons
    (s_if (a_tcmp (op_eqD hr.units) opa_eqD (av 4) a_str) (ss_one (s_ret (a_ix (av 6) (av 5)))) ss_nil)
    (ss_cons
    (s_if (a_tcmp (op_eqD hr.units) opa_eqD (av 4) a_str) (ss_one (s_ret (a_mod (a_add (av 1) (a_ix (av 6) (av 5))) a_int))) ss_nil)
    (ss_cons
    (s_if (a_tcmp (op_eqD hr.units) opa_eqD (av 4) a_str) (ss_one (s_ret (av 7))) ss_nil)
    (ss_cons
    (s_if (a_tcmp (op_eqD hr.units) opa_eqD (av 4) a_str) (ss_one (s_ret (a_if (a_tcmp op_gt opa_gt (a_len n_len (av 8)) a_int) (a_ix (av 8) a_int) a_int))) ss_nil)
    (ss_cons
    (s_if (a_tcmp (op_eqD hr.units) opa_eqD (av 4) a_str) (ss_one (s_ret (a_len n_len (av 8)))) ss_nil)
    (ss_cons
    (s_if (a_tcmp (op_eqD hr.units) opa_eqD (av 4) a_str) (ss_one (s_ret (a_if (a_tru (av 9)) a_int a_int))) ss_nil)
    (ss_cons
    (s_if (a_tcmp (op_eqD hr.units) opa_eqD (av 4) a_str) (ss_one (s_ret (a_ix (av 3) a_int))) ss_nil)
    (ss_one (s_ret (av 1)))))))))))))
/-! replaced -/
abbrev s_replaced : Stmt := topS 28
abbrev N_replaced : List Str := ["items", "index", "item"]
theorem sc_replaced : FnScope N_replaced ["items", "index", "item"] (defScope s_replaced) := ⟨rfl, rfl, rfl, by decide +kernel, rfl, by decide +kernel, by decide +kernel⟩
def A_replaced : AF := fnA 3 (fRet (fBin oAdd (fBin oAdd (fSl (fVar 0) fNoP (fPart (fVar 1))) (fTup (fCons (fVar 2) fNil))) (fSl (fVar 0) (fPart (fBin oAdd (fVar 1) (fC (.int 1)))) fNoP)))
theorem ok_replaced {P : Program} {w : World} {K : PySem.W.Frag} {mg : Str → Option Value} {base : Heap} {cl : Nat → Addr} {f : Addr} {fd : FuncData}  (F : Fun K "replaced" "replaced" s_replaced f fd) : FnOk P w K mg base CX0 1 f fd ["items", "index", "item"] (cF K cl 3 A_replaced) :=
  fn_ok (N := N_replaced) (k := 0) F sc_replaced fun cdv A outer s H E hr =>
    (ss_one (s_ret (a_add (a_add (a_sl (av 0) o_none (o_some (av 1))) (a_tup (g_cons (av 2) g_nil))) (a_sl (av 0) (o_some (a_add (av 1) a_int)) o_none))))
/-! cells_after -/
abbrev s_cells_after : Stmt := topS 27
abbrev N_cells_after : List Str := ["instruction", "hand", "cells", "world", "word", "number"]
theorem sc_cells_after : FnScope N_cells_after ["instruction", "hand", "cells", "world"] (defScope s_cells_after) := ⟨rfl, rfl, rfl, by decide +kernel, rfl, by decide +kernel, by decide +kernel⟩
def A_cells_after : AF := fnA 6 (fSeq
    (fAsg (fVar 0) (gTupD 2 (gsCons (gN 4) (gsCons (gN 5) gsNil))))
    (fSeq
    (fIfS (fTst (fBin (oEqD false) (fVar 4) (fC (.str "save")))) (fRet (fCall A_replaced (fCons (fVar 2) (fCons (fVar 5) (fCons (fVar 1) fNil))))) fNx)
    (fSeq
    (fIfS (fTst (fBin (oEqD false) (fVar 4) (fC (.str "first")))) (fRet (fCall A_replaced (fCons (fVar 2) (fCons (fVar 5) (fCons (fBin oIx (fVar 3) (fC (.int 5))) fNil))))) fNx)
    (fRet (fVar 2)))))
theorem ok_cells_after {P : Program} {w : World} {K : PySem.W.Frag} {mg : Str → Option Value} {base : Heap} {cl : Nat → Addr} {f : Addr} {fd : FuncData} (h_replaced : CallOk P w K mg base cl "replaced" 1 3 A_replaced) (F : Fun K "cells_after" "cells_after" s_cells_after f fd) : FnOk P w K mg base CX0 2 f fd ["instruction", "hand", "cells", "world"] (cF K cl 4 A_cells_after) :=
  fn_ok (N := N_cells_after) (k := 1) F sc_cells_after fun cdv A outer s H E hr =>
    (ss_cons
    (s_asg (av 0) (t_tup rfl (ts_cons (t_name sc_cells_after.nd) (ts_cons (t_name sc_cells_after.nd) ts_nil))))
    (ss_cons
    (s_if (a_tcmp (op_eqD hr.units) opa_eqD (av 4) a_str) (ss_one (s_ret (a_callO h_replaced hr (g_cons (av 2) (g_cons (av 5) (g_cons (av 1) g_nil)))))) ss_nil)
    (ss_cons
    (s_if (a_tcmp (op_eqD hr.units) opa_eqD (av 4) a_str) (ss_one (s_ret (a_callO h_replaced hr (g_cons (av 2) (g_cons (av 5) (g_cons (a_ix (av 3) a_int) g_nil)))))) ss_nil)
    (ss_one (s_ret (av 2))))))
/-! instructed -/
abbrev s_instructed : Stmt := topS 21
abbrev N_instructed : List Str := ["scheme", "ready", "world", "threads", "current", "handler", "cells", "clock", "words", "lost", "heard", "pending", "code", "place", "hand", "instruction", "word", "following", "held", "told"]
theorem sc_instructed : FnScope N_instructed ["scheme", "ready", "world"] (defScope s_instructed) := ⟨rfl, rfl, rfl, by decide +kernel, rfl, by decide +kernel, by decide +kernel⟩
def A_instructed : AF := fnA 20 (fSeq
    (fAsg (fVar 1) (gTupD 9 (gsCons (gN 3) (gsCons (gN 4) (gsCons (gN 5) (gsCons (gN 6) (gsCons (gN 7) (gsCons (gN 8) (gsCons (gN 9) (gsCons (gN 10) (gsCons (gN 11) gsNil)))))))))))
    (fSeq
    (fAsg (fCall A_turn (fCons (fVar 0) (fCons (fVar 1) fNil))) (gTupD 3 (gsCons (gN 12) (gsCons (gN 13) (gsCons (gN 14) gsNil)))))
    (fSeq
    (fAsg (fBin oIx (fVar 12) (fVar 13)) (gN 15))
    (fSeq
    (fAsg (fBin oIx (fVar 15) (fC (.int 0))) (gN 16))
    (fSeq
    (fAsg (fCall A_place_after (fCons (fVar 15) (fCons (fVar 13) (fCons (fVar 14) fNil)))) (gN 17))
    (fSeq
    (fAsg (fCall A_hand_after (fCons (fVar 15) (fCons (fVar 14) (fCons (fVar 1) (fCons (fVar 2) fNil))))) (gN 18))
    (fSeq
    (fIfS (fTst (fBin (oIsN false) (fVar 5) (fC .non))) (fAsg (fCall A_replaced (fCons (fVar 3) (fCons (fVar 4) (fCons (fTup (fCons (fBin oMod (fVar 17) (fCB oLen (fCons (fVar 12) fNil))) (fCons (fVar 18) fNil))) fNil)))) (gN 3)) (fAsg (fIf (fTst (fBin oLt (fVar 17) (fCB oLen (fCons (fVar 12) fNil)))) (fTup (fCons (fVar 17) (fCons (fVar 18) fNil))) (fC .non)) (gN 5)))
    (fSeq
    (fAsg (fCall A_cells_after (fCons (fVar 15) (fCons (fVar 14) (fCons (fVar 6) (fCons (fVar 2) fNil))))) (gN 6))
    (fSeq
    (fAsg (fIf (fTst (fBin (oEqD false) (fVar 16) (fC (.str "take")))) (fSl (fVar 8) (fPart (fC (.int 1))) fNoP) (fVar 8)) (gN 8))
    (fSeq
    (fAsg (fAndV (fVar 9) (fBin (oEqD true) (fVar 16) (fC (.str "spilt")))) (gN 9))
    (fSeq
    (fAsg (fOrV (fBin (oEqD false) (fVar 16) (fC (.str "open"))) (fAndV (fVar 10) (fBin (oEqD true) (fVar 16) (fC (.str "shut"))))) (gN 10))
    (fSeq
    (fAsg (fIf (fTst (fBin (oEqD false) (fVar 16) (fC (.str "show")))) (fVar 14) (fC .non)) (gN 19))
    (fRet (fTup (fCons (fTup (fCons (fVar 3) (fCons (fVar 4) (fCons (fVar 5) (fCons (fVar 6) (fCons (fVar 7) (fCons (fVar 8) (fCons (fVar 9) (fCons (fVar 10) (fCons (fVar 11) fNil)))))))))) (fCons (fVar 19) fNil))))))))))))))))
theorem ok_instructed {P : Program} {w : World} {K : PySem.W.Frag} {mg : Str → Option Value} {base : Heap} {cl : Nat → Addr} {f : Addr} {fd : FuncData} (h_turn : CallOk P w K mg base cl "turn" 3 2 A_turn) (h_place_after : CallOk P w K mg base cl "place_after" 1 3 A_place_after) (h_hand_after : CallOk P w K mg base cl "hand_after" 1 4 A_hand_after) (n_len : mg "len" = none) (h_replaced : CallOk P w K mg base cl "replaced" 1 3 A_replaced) (h_cells_after : CallOk P w K mg base cl "cells_after" 2 4 A_cells_after) (F : Fun K "instructed" "instructed" s_instructed f fd) : FnOk P w K mg base CX0 4 f fd ["scheme", "ready", "world"] (cF K cl 3 A_instructed) :=
  fn_ok (N := N_instructed) (k := 3) F sc_instructed fun cdv A outer s H E hr =>
    (ss_cons
    (s_asg (av 1) (t_tup rfl (ts_cons (t_name sc_instructed.nd) (ts_cons (t_name sc_instructed.nd) (ts_cons (t_name sc_instructed.nd) (ts_cons (t_name sc_instructed.nd) (ts_cons (t_name sc_instructed.nd) (ts_cons (t_name sc_instructed.nd) (ts_cons (t_name sc_instructed.nd) (ts_cons (t_name sc_instructed.nd) (ts_cons (t_name sc_instructed.nd) ts_nil)))))))))))
    (ss_cons
    (s_asg (a_callO h_turn hr (g_cons (av 0) (g_cons (av 1) g_nil))) (t_tup rfl (ts_cons (t_name sc_instructed.nd) (ts_cons (t_name sc_instructed.nd) (ts_cons (t_name sc_instructed.nd) ts_nil)))))
    (ss_cons
    (s_set sc_instructed.nd (a_ix (av 12) (av 13)))
    (ss_cons
    (s_set sc_instructed.nd (a_ix (av 15) a_int))
    (ss_cons
    (s_set sc_instructed.nd (a_callO h_place_after hr (g_cons (av 15) (g_cons (av 13) (g_cons (av 14) g_nil)))))
    (ss_cons
    (s_set sc_instructed.nd (a_callO h_hand_after hr (g_cons (av 15) (g_cons (av 14) (g_cons (av 1) (g_cons (av 2) g_nil))))))
    (ss_cons
    (s_if (a_tcmp op_isN opa_isN (av 5) a_non) (ss_one (s_set sc_instructed.nd (a_callO h_replaced hr (g_cons (av 3) (g_cons (av 4) (g_cons (a_tup (g_cons (a_mod (av 17) (a_len n_len (av 12))) (g_cons (av 18) g_nil))) g_nil)))))) (ss_one (s_set sc_instructed.nd (a_if (a_tcmp op_lt opa_lt (av 17) (a_len n_len (av 12))) (a_tup (g_cons (av 17) (g_cons (av 18) g_nil))) a_non))))
    (ss_cons
    (s_set sc_instructed.nd (a_callO h_cells_after hr (g_cons (av 15) (g_cons (av 14) (g_cons (av 6) (g_cons (av 2) g_nil))))))
    (ss_cons
    (s_set sc_instructed.nd (a_if (a_tcmp (op_eqD hr.units) opa_eqD (av 16) a_str) (a_sl (av 8) (o_some a_int) o_none) (av 8)))
    (ss_cons
    (s_set sc_instructed.nd (a_and (av 9) (a_one (a_cmp (op_neD hr.units) opa_neD (av 16) a_str))))
    (ss_cons
    (s_set sc_instructed.nd (a_or (a_cmp (op_eqD hr.units) opa_eqD (av 16) a_str) (a_one (a_and (av 10) (a_one (a_cmp (op_neD hr.units) opa_neD (av 16) a_str))))))
    (ss_cons
    (s_set sc_instructed.nd (a_if (a_tcmp (op_eqD hr.units) opa_eqD (av 16) a_str) (av 14) a_non))
    (ss_one (s_ret (a_tup (g_cons (a_tup (g_cons (av 3) (g_cons (av 4) (g_cons (av 5) (g_cons (av 6) (g_cons (av 7) (g_cons (av 8) (g_cons (av 9) (g_cons (av 10) (g_cons (av 11) g_nil)))))))))) (g_cons (av 19) g_nil)))))))))))))))))
/-! before_instruction -/
abbrev s_before_instruction : Stmt := topS 22
abbrev N_before_instruction : List Str := ["scheme", "state", "world", "threads", "current", "handler", "cells", "clock", "words", "lost", "heard", "pending", "rings", "alarms", "ticks", "arrived"]
theorem sc_before_instruction : FnScope N_before_instruction ["scheme", "state", "world"] (defScope s_before_instruction) := ⟨rfl, rfl, rfl, by decide +kernel, rfl, by decide +kernel, by decide +kernel⟩
def A_before_instruction : AF := fnA 16 (fSeq
    (fAsg (fVar 1) (gTupD 9 (gsCons (gN 3) (gsCons (gN 4) (gsCons (gN 5) (gsCons (gN 6) (gsCons (gN 7) (gsCons (gN 8) (gsCons (gN 9) (gsCons (gN 10) (gsCons (gN 11) gsNil)))))))))))
    (fSeq
    (fAsg (fSl (fVar 2) fNoP (fPart (fC (.int 4)))) (gTupD 4 (gsCons (gN 12) (gsCons (gN 13) (gsCons (gN 14) (gsCons (gN 15) gsNil))))))
    (fSeq
    (fIfS (fTru (fVar 14)) (fAsg (fBin oMod (fBin oAdd (fVar 7) (fC (.int 1))) (fC (.int 3))) (gN 7)) fNx)
    (fSeq
    (fIfS (fAnd (fTst (fBin (oIsN true) (fVar 15) (fC .non))) (fTst (fBin (oEqD false) (fCB oLen (fCons (fVar 8) fNil)) (fC c_MOST_WORDS)))) (fAsg (fC (.bl true)) (gN 9)) (fIfS (fTst (fBin (oIsN true) (fVar 15) (fC .non))) (fAsg (fBin oAdd (fVar 8) (fTup (fCons (fVar 15) fNil))) (gN 8)) fNx))
    (fSeq
    (fAsg (fOrV (fVar 11) (fVar 13)) (gN 11))
    (fSeq
    (fIfS (fAnd (fTru (fVar 12)) (fTst (fBin (oIsN false) (fVar 5) (fC .non)))) (fAsg (fBin oMod (fBin oAdd (fVar 4) (fC (.int 1))) (fCB oLen (fCons (fVar 3) fNil))) (gN 4)) fNx)
    (fSeq
    (fIfS (fAnd (fTru (fVar 11)) (fAnd (fTru (fVar 10)) (fAnd (fTst (fBin (oIsN false) (fVar 5) (fC .non))) (fTst (fBin oGt (fCB oLen (fCons (fProp 0 A_Scheme_handler (fVar 0)) fNil)) (fC (.int 0))))))) (fAsg (fTup (fCons (fTup (fCons (fC (.int 0)) (fCons (fC (.int 0)) fNil))) (fCons (fC (.bl false)) fNil))) (gTupD 2 (gsCons (gN 5) (gsCons (gN 11) gsNil)))) fNx)
    (fRet (fTup (fCons (fVar 3) (fCons (fVar 4) (fCons (fVar 5) (fCons (fVar 6) (fCons (fVar 7) (fCons (fVar 8) (fCons (fVar 9) (fCons (fVar 10) (fCons (fVar 11) fNil))))))))))))))))))
theorem ok_before_instruction {P : Program} {w : World} {K : PySem.W.Frag} {mg : Str → Option Value} {base : Heap} {cl : Nat → Addr} {f : Addr} {fd : FuncData} (n_len : mg "len" = none) (g_MOST_WORDS : Glo K mg "MOST_WORDS" c_MOST_WORDS) (p_Scheme_handler : PropOk P w K mg base cl 0 "handler" 1 A_Scheme_handler) (F : Fun K "before_instruction" "before_instruction" s_before_instruction f fd) : FnOk P w K mg base CX0 3 f fd ["scheme", "state", "world"] (cF K cl 3 A_before_instruction) :=
  fn_ok (N := N_before_instruction) (k := 2) F sc_before_instruction fun cdv A outer s H E hr =>
    (ss_cons
    (s_asg (av 1) (t_tup rfl (ts_cons (t_name sc_before_instruction.nd) (ts_cons (t_name sc_before_instruction.nd) (ts_cons (t_name sc_before_instruction.nd) (ts_cons (t_name sc_before_instruction.nd) (ts_cons (t_name sc_before_instruction.nd) (ts_cons (t_name sc_before_instruction.nd) (ts_cons (t_name sc_before_instruction.nd) (ts_cons (t_name sc_before_instruction.nd) (ts_cons (t_name sc_before_instruction.nd) ts_nil)))))))))))
    (ss_cons
    (s_asg (a_sl (av 2) o_none (o_some a_int)) (t_tup rfl (ts_cons (t_name sc_before_instruction.nd) (ts_cons (t_name sc_before_instruction.nd) (ts_cons (t_name sc_before_instruction.nd) (ts_cons (t_name sc_before_instruction.nd) ts_nil))))))
    (ss_cons
    (s_if (a_tru (av 14)) (ss_one (s_set sc_before_instruction.nd (a_mod (a_add (av 7) a_int) a_int))) ss_nil)
    (ss_cons
    (s_if (a_tw (w_and (a_tcmp op_notN opa_notN (av 15) a_non) (w_and1 (a_tcmp (op_eqD hr.units) opa_eqD (a_len n_len (av 8)) (a_glob g_MOST_WORDS))))) (ss_one (s_set sc_before_instruction.nd a_bl)) (ss_one (s_if (a_tcmp op_notN opa_notN (av 15) a_non) (ss_one (s_set sc_before_instruction.nd (a_add (av 8) (a_tup (g_cons (av 15) g_nil))))) ss_nil)))
    (ss_cons
    (s_set sc_before_instruction.nd (a_or (av 11) (a_one (av 13))))
    (ss_cons
    (s_if (a_tw (w_and (a_tru (av 12)) (w_and1 (a_tcmp op_isN opa_isN (av 5) a_non)))) (ss_one (s_set sc_before_instruction.nd (a_mod (a_add (av 4) a_int) (a_len n_len (av 3))))) ss_nil)
    (ss_cons
    (s_if (a_tw (w_and (a_tru (av 11)) (w_and (a_tru (av 10)) (w_and (a_tcmp op_isN opa_isN (av 5) a_non) (w_and1 (a_tcmp op_gt opa_gt (a_len n_len (a_propO p_Scheme_handler hr (av 0))) a_int)))))) (ss_one (s_asg (a_tup (g_cons (a_tup (g_cons a_int (g_cons a_int g_nil))) (g_cons a_bl g_nil))) (t_tup rfl (ts_cons (t_name sc_before_instruction.nd) (ts_cons (t_name sc_before_instruction.nd) ts_nil))))) ss_nil)
    (ss_one (s_ret (a_tup (g_cons (av 3) (g_cons (av 4) (g_cons (av 5) (g_cons (av 6) (g_cons (av 7) (g_cons (av 8) (g_cons (av 9) (g_cons (av 10) (g_cons (av 11) g_nil)))))))))))))))))))
/-! stepped -/
abbrev s_stepped : Stmt := topS 20
abbrev N_stepped : List Str := ["scheme", "state", "world"]
theorem sc_stepped : FnScope N_stepped ["scheme", "state", "world"] (defScope s_stepped) := ⟨rfl, rfl, rfl, by decide +kernel, rfl, by decide +kernel, by decide +kernel⟩
def A_stepped : AF := fnA 3 (fRet (fCall A_instructed (fCons (fVar 0) (fCons (fCall A_before_instruction (fCons (fVar 0) (fCons (fVar 1) (fCons (fVar 2) fNil)))) (fCons (fVar 2) fNil)))))
theorem ok_stepped {P : Program} {w : World} {K : PySem.W.Frag} {mg : Str → Option Value} {base : Heap} {cl : Nat → Addr} {f : Addr} {fd : FuncData} (h_before_instruction : CallOk P w K mg base cl "before_instruction" 3 3 A_before_instruction) (h_instructed : CallOk P w K mg base cl "instructed" 4 3 A_instructed) (F : Fun K "stepped" "stepped" s_stepped f fd) : FnOk P w K mg base CX0 5 f fd ["scheme", "state", "world"] (cF K cl 3 A_stepped) :=
  fn_ok (N := N_stepped) (k := 4) F sc_stepped fun cdv A outer s H E hr =>
    (ss_one (s_ret (a_callO h_instructed hr (g_cons (av 0) (g_cons (a_callO h_before_instruction hr (g_cons (av 0) (g_cons (av 1) (g_cons (av 2) g_nil)))) (g_cons (av 2) g_nil))))))
/-! Machine.step -/
abbrev s_Machine_step : Stmt := inClass (topS 30) 4
abbrev N_Machine_step : List Str := ["self", "world", "told"]
theorem sc_Machine_step : FnScope N_Machine_step ["self", "world"] (defScope s_Machine_step) := ⟨rfl, rfl, rfl, by decide +kernel, rfl, by decide +kernel, by decide +kernel⟩
def A_Machine_step : AF := fnA 3 (fSeq
    (fIfS (fNot (fTst (fCall A_is_world (fCons (fFld [1] "_scheme" (fVar 0)) (fCons (fVar 1) fNil))))) fNever fNx)
    (fSeq
    (fAsg (fCall A_stepped (fCons (fFld [1] "_scheme" (fVar 0)) (fCons (fFld [1] "_state" (fVar 0)) (fCons (fVar 1) fNil)))) (gTupD 2 (gsCons (gFldD [1] "_state" (fVar 0)) (gsCons (gN 2) gsNil))))
    (fSeq
    (fFldAug [1] "_steps" (· + ·) (fVar 0) (fC (.int 1)))
    (fRet (fVar 2)))))
theorem ok_Machine_step {P : Program} {w : World} {K : PySem.W.Frag} {mg : Str → Option Value} {base : Heap} {cl : Nat → Addr} {f : Addr} {fd : FuncData} (t_scheme : Atr K cl [1] "_scheme") (h_is_world : CallOk P w K mg base cl "is_world" 3 2 A_is_world) (t_state : Atr K cl [1] "_state") (h_stepped : CallOk P w K mg base cl "stepped" 5 3 A_stepped) (t_steps : Atr K cl [1] "_steps") (F : Fun K "step" "Machine.step" s_Machine_step f fd) : FnOk P w K mg base CX0 6 f fd ["self", "world"] (cF K cl 2 A_Machine_step) :=
  fn_ok (N := N_Machine_step) (k := 5) F sc_Machine_step fun cdv A outer s H E hr =>
    (ss_cons
    (s_if (a_tnot (a_tval (a_callO h_is_world hr (g_cons (a_fld t_scheme (av 0)) (g_cons (av 1) g_nil))))) (ss_one s_never) ss_nil)
    (ss_cons
    (s_asg (a_callO h_stepped hr (g_cons (a_fld t_scheme (av 0)) (g_cons (a_fld t_state (av 0)) (g_cons (av 1) g_nil)))) (t_tup rfl (ts_cons (t_fld t_state (av 0)) (ts_cons (t_name sc_Machine_step.nd) ts_nil))))
    (ss_cons
    (s_fldadd t_steps (av 0) a_int)
    (ss_one (s_ret (av 2))))))
/-! upcoming -/
abbrev s_upcoming : Stmt := topS 24
abbrev N_upcoming : List Str := ["scheme", "state", "ready", "current", "handler", "code", "place", "who"]
theorem sc_upcoming : FnScope N_upcoming ["scheme", "state"] (defScope s_upcoming) := ⟨rfl, rfl, rfl, by decide +kernel, rfl, by decide +kernel, by decide +kernel⟩
def A_upcoming : AF := fnA 8 (fSeq
    (fAsg (fCall A_before_instruction (fCons (fVar 0) (fCons (fVar 1) (fCons (fC c_QUIET) fNil)))) (gN 2))
    (fSeq
    (fAsg (fSl (fVar 2) (fPart (fC (.int 1))) (fPart (fC (.int 3)))) (gTupD 2 (gsCons (gN 3) (gsCons (gN 4) gsNil))))
    (fSeq
    (fAsg (fSl (fCall A_turn (fCons (fVar 0) (fCons (fVar 2) fNil))) fNoP (fPart (fC (.int 2)))) (gTupD 2 (gsCons (gN 5) (gsCons (gN 6) gsNil))))
    (fSeq
    (fAsg (fIf (fTst (fBin (oIsN false) (fVar 4) (fC .non))) (fVar 3) (fC .non)) (gN 7))
    (fRet (fTup (fCons (fVar 7) (fCons (fBin oIx (fVar 5) (fVar 6)) fNil))))))))
theorem ok_upcoming {P : Program} {w : World} {K : PySem.W.Frag} {mg : Str → Option Value} {base : Heap} {cl : Nat → Addr} {f : Addr} {fd : FuncData} (g_QUIET : Glo K mg "QUIET" c_QUIET) (h_before_instruction : CallOk P w K mg base cl "before_instruction" 3 3 A_before_instruction) (h_turn : CallOk P w K mg base cl "turn" 3 2 A_turn) (F : Fun K "upcoming" "upcoming" s_upcoming f fd) : FnOk P w K mg base CX0 4 f fd ["scheme", "state"] (cF K cl 2 A_upcoming) :=
  fn_ok (N := N_upcoming) (k := 3) F sc_upcoming fun cdv A outer s H E hr =>
    (ss_cons
    (s_set sc_upcoming.nd (a_callO h_before_instruction hr (g_cons (av 0) (g_cons (av 1) (g_cons (a_glob g_QUIET) g_nil)))))
    (ss_cons
    (s_asg (a_sl (av 2) (o_some a_int) (o_some a_int)) (t_tup rfl (ts_cons (t_name sc_upcoming.nd) (ts_cons (t_name sc_upcoming.nd) ts_nil))))
    (ss_cons
    (s_asg (a_sl (a_callO h_turn hr (g_cons (av 0) (g_cons (av 2) g_nil))) o_none (o_some a_int)) (t_tup rfl (ts_cons (t_name sc_upcoming.nd) (ts_cons (t_name sc_upcoming.nd) ts_nil))))
    (ss_cons
    (s_set sc_upcoming.nd (a_if (a_tcmp op_isN opa_isN (av 4) a_non) (av 3) a_non))
    (ss_one (s_ret (a_tup (g_cons (av 7) (g_cons (a_ix (av 5) (av 6)) g_nil)))))))))
/-! Machine.next -/
abbrev s_Machine_next : Stmt := inClass (topS 30) 5
abbrev N_Machine_next : List Str := ["self"]
theorem sc_Machine_next : FnScope N_Machine_next ["self"] (defScope s_Machine_next) := ⟨rfl, rfl, rfl, by decide +kernel, rfl, by decide +kernel, by decide +kernel⟩
def A_Machine_next : AF := fnA 1 (fRet (fCall A_upcoming (fCons (fFld [1] "_scheme" (fVar 0)) (fCons (fFld [1] "_state" (fVar 0)) fNil))))
theorem ok_Machine_next {P : Program} {w : World} {K : PySem.W.Frag} {mg : Str → Option Value} {base : Heap} {cl : Nat → Addr} {f : Addr} {fd : FuncData} (t_state : Atr K cl [1] "_state") (t_scheme : Atr K cl [1] "_scheme") (h_upcoming : CallOk P w K mg base cl "upcoming" 4 2 A_upcoming) (F : Fun K "next" "Machine.next" s_Machine_next f fd) : FnOk P w K mg base CX0 5 f fd ["self"] (cF K cl 1 A_Machine_next) :=
  fn_ok (N := N_Machine_next) (k := 4) F sc_Machine_next fun cdv A outer s H E hr =>
    (ss_one (s_ret (a_callO h_upcoming hr (g_cons (a_fld t_scheme (av 0)) (g_cons (a_fld t_state (av 0)) g_nil)))))
/-! machine_at -/
abbrev s_machine_at : Stmt := topS 31
abbrev N_machine_at : List Str := ["scheme", "state", "machine"]
theorem sc_machine_at : FnScope N_machine_at ["scheme", "state"] (defScope s_machine_at) := ⟨rfl, rfl, rfl, by decide +kernel, rfl, by decide +kernel, by decide +kernel⟩
def A_machine_at : AF := fnA 3 (fSeq
    (fAsg (fMake 1 A_Machine_init (fCons (fVar 0) fNil)) (gN 2))
    (fSeq
    (fFldS [1] "_state" (fVar 2) (fVar 1))
    (fRet (fVar 2))))
theorem ok_machine_at {P : Program} {w : World} {K : PySem.W.Frag} {mg : Str → Option Value} {base : Heap} {cl : Nat → Addr} {f : Addr} {fd : FuncData} (m_Machine : MakeOk P w K mg base cl 1 "Machine" 4 1 A_Machine_init) (t_state : Atr K cl [1] "_state") (F : Fun K "machine_at" "machine_at" s_machine_at f fd) : FnOk P w K mg base CX0 6 f fd ["scheme", "state"] (cF K cl 2 A_machine_at) :=
  fn_ok (N := N_machine_at) (k := 5) F sc_machine_at fun cdv A outer s H E hr =>
    (ss_cons
    (s_set sc_machine_at.nd (a_makeO m_Machine hr (g_cons (av 0) g_nil)))
    (ss_cons
    (s_fld t_state (av 2) (av 1))
    (ss_one (s_ret (av 2)))))
/-! Machine.copy -/
abbrev s_Machine_copy : Stmt := inClass (topS 30) 6
abbrev N_Machine_copy : List Str := ["self", "other"]
theorem sc_Machine_copy : FnScope N_Machine_copy ["self"] (defScope s_Machine_copy) := ⟨rfl, rfl, rfl, by decide +kernel, rfl, by decide +kernel, by decide +kernel⟩
def A_Machine_copy : AF := fnA 2 (fSeq
    (fAsg (fCall A_machine_at (fCons (fFld [1] "_scheme" (fVar 0)) (fCons (fFld [1] "_state" (fVar 0)) fNil))) (gN 1))
    (fSeq
    (fFldS [1] "_steps" (fVar 1) (fFld [1] "_steps" (fVar 0)))
    (fRet (fVar 1))))
theorem ok_Machine_copy {P : Program} {w : World} {K : PySem.W.Frag} {mg : Str → Option Value} {base : Heap} {cl : Nat → Addr} {f : Addr} {fd : FuncData} (t_state : Atr K cl [1] "_state") (t_scheme : Atr K cl [1] "_scheme") (h_machine_at : CallOk P w K mg base cl "machine_at" 6 2 A_machine_at) (t_steps : Atr K cl [1] "_steps") (F : Fun K "copy" "Machine.copy" s_Machine_copy f fd) : FnOk P w K mg base CX0 7 f fd ["self"] (cF K cl 1 A_Machine_copy) :=
  fn_ok (N := N_Machine_copy) (k := 6) F sc_Machine_copy fun cdv A outer s H E hr =>
    (ss_cons
    (s_set sc_Machine_copy.nd (a_callO h_machine_at hr (g_cons (a_fld t_scheme (av 0)) (g_cons (a_fld t_state (av 0)) g_nil))))
    (ss_cons
    (s_fld t_steps (av 1) (a_fld t_steps (av 0)))
    (ss_one (s_ret (av 1)))))
/-! Scheme.__eq__ -/
abbrev s_Scheme_eq : Stmt := inClass (topS 8) 4
abbrev N_Scheme_eq : List Str := ["self", "other", "mine"]
theorem sc_Scheme_eq : FnScope N_Scheme_eq ["self", "other"] (defScope s_Scheme_eq) := ⟨rfl, rfl, rfl, by decide +kernel, rfl, by decide +kernel, by decide +kernel⟩
def A_Scheme_eq : AF := fnA 3 (fSeq
    (fIfS (fNot (fTst (fIsC 0 (fVar 1)))) (fRet (fC (.bl false))) fNx)
    (fSeq
    (fAsg (fTup (fCons (fFld [0] "_threads" (fVar 0)) (fCons (fFld [0] "_handler" (fVar 0)) (fCons (fFld [0] "_kinds" (fVar 0)) fNil)))) (gN 2))
    (fRet (fBin (oEqD false) (fVar 2) (fTup (fCons (fFld [0] "_threads" (fVar 1)) (fCons (fFld [0] "_handler" (fVar 1)) (fCons (fFld [0] "_kinds" (fVar 1)) fNil))))))))
theorem ok_Scheme_eq {P : Program} {w : World} {K : PySem.W.Frag} {mg : Str → Option Value} {base : Heap} {cl : Nat → Addr} {f : Addr} {fd : FuncData} (n_isinstance : mg "isinstance" = none) (i_Scheme : C8.InsC K (cl 0)) (mc_Scheme : mg "Scheme" = some (.ref (cl 0))) (t_kinds : Atr K cl [0] "_kinds") (t_handler : Atr K cl [0] "_handler") (t_threads : Atr K cl [0] "_threads") (F : Fun K "__eq__" "Scheme.__eq__" s_Scheme_eq f fd) : FnOk P w K mg base CX0 1 f fd ["self", "other"] (cF K cl 2 A_Scheme_eq) :=
  fn_ok (N := N_Scheme_eq) (k := 0) F sc_Scheme_eq fun cdv A outer s H E hr =>
    (ss_cons
    (s_if (a_tnot (a_tval (a_isC i_Scheme mc_Scheme n_isinstance (av 1)))) (ss_one (s_ret a_bl)) ss_nil)
    (ss_cons
    (s_set sc_Scheme_eq.nd (a_tup (g_cons (a_fld t_threads (av 0)) (g_cons (a_fld t_handler (av 0)) (g_cons (a_fld t_kinds (av 0)) g_nil)))))
    (ss_one (s_ret (a_cmp (op_eqD hr.units) opa_eqD (av 2) (a_tup (g_cons (a_fld t_threads (av 1)) (g_cons (a_fld t_handler (av 1)) (g_cons (a_fld t_kinds (av 1)) g_nil)))))))))
/-! Machine.__eq__ -/
abbrev s_Machine_eq : Stmt := inClass (topS 30) 7
abbrev N_Machine_eq : List Str := ["self", "other"]
theorem sc_Machine_eq : FnScope N_Machine_eq ["self", "other"] (defScope s_Machine_eq) := ⟨rfl, rfl, rfl, by decide +kernel, rfl, by decide +kernel, by decide +kernel⟩
def A_Machine_eq : AF := fnA 2 (fSeq
    (fIfS (fNot (fTst (fIsC 1 (fVar 1)))) (fRet (fC (.bl false))) fNx)
    (fRet (fAndV (fBin (oEqO 0 A_Scheme_eq) (fFld [1] "_scheme" (fVar 0)) (fFld [1] "_scheme" (fVar 1))) (fBin (oEqD false) (fFld [1] "_state" (fVar 0)) (fFld [1] "_state" (fVar 1))))))
theorem ok_Machine_eq {P : Program} {w : World} {K : PySem.W.Frag} {mg : Str → Option Value} {base : Heap} {cl : Nat → Addr} {f : Addr} {fd : FuncData} (n_isinstance : mg "isinstance" = none) (i_Machine : C8.InsC K (cl 1)) (mc_Machine : mg "Machine" = some (.ref (cl 1))) (e_Scheme : EqOk P w K mg base cl 0 1 A_Scheme_eq) (t_scheme : Atr K cl [1] "_scheme") (t_state : Atr K cl [1] "_state") (F : Fun K "__eq__" "Machine.__eq__" s_Machine_eq f fd) : FnOk P w K mg base CX0 2 f fd ["self", "other"] (cF K cl 2 A_Machine_eq) :=
  fn_ok (N := N_Machine_eq) (k := 1) F sc_Machine_eq fun cdv A outer s H E hr =>
    (ss_cons
    (s_if (a_tnot (a_tval (a_isC i_Machine mc_Machine n_isinstance (av 1)))) (ss_one (s_ret a_bl)) ss_nil)
    (ss_one (s_ret (a_and (a_eqO e_Scheme hr (a_fld t_scheme (av 0)) (a_fld t_scheme (av 1))) (a_one (a_cmp (op_eqD hr.units) opa_eqD (a_fld t_state (av 0)) (a_fld t_state (av 1))))))))
/-! check_worlds -/
abbrev s_check_worlds : Stmt := topS 35
abbrev N_check_worlds : List Str := ["scheme", "worlds", "most", "index", "world"]
theorem sc_check_worlds : FnScope N_check_worlds ["scheme", "worlds", "most"] (defScope s_check_worlds) := ⟨rfl, rfl, rfl, by decide +kernel, rfl, by decide +kernel, by decide +kernel⟩
def A_check_worlds : AF := fnA 5 (fSeq
    (fIfS (fOr (fNot (fTst (fIsT ["list", "tuple"] (fVar 1)))) (fTst (fBin oGt (fCB oLen (fCons (fVar 1) fNil)) (fVar 2)))) fNever fNx)
    (fFor (fEnum (fVar 1)) (gTupD 2 (gsCons (gN 3) (gsCons (gN 4) gsNil))) (fIfS (fNot (fTst (fCall A_is_world (fCons (fVar 0) (fCons (fVar 4) fNil))))) fNever fNx)))
theorem ok_check_worlds {P : Program} {w : World} {K : PySem.W.Frag} {mg : Str → Option Value} {base : Heap} {cl : Nat → Addr} {f : Addr} {fd : FuncData} (n_isinstance : mg "isinstance" = none) (n_list : mg "list" = none) (n_tuple : mg "tuple" = none) (n_len : mg "len" = none) (n_enumerate : mg "enumerate" = none) (h_is_world : CallOk P w K mg base cl "is_world" 3 2 A_is_world) (F : Fun K "check_worlds" "check_worlds" s_check_worlds f fd) : FnOk P w K mg base CX0 4 f fd ["scheme", "worlds", "most"] (cF K cl 3 A_check_worlds) :=
  fn_ok (N := N_check_worlds) (k := 3) F sc_check_worlds fun cdv A outer s H E hr =>
    (ss_cons
    (s_if (a_tw (w_or (a_tnot (a_tval (a_isT2 n_isinstance n_list (by decide +kernel) n_tuple (by decide +kernel) (av 1)))) (w_or1 (a_tcmp op_gt opa_gt (a_len n_len (av 1)) (av 2))))) (ss_one s_never) ss_nil)
    (ss_one (s_for PassesOwn.never rfl (i_enum n_enumerate (av 1)) (t_tup rfl (ts_cons (t_name sc_check_worlds.nd) (ts_cons (t_name sc_check_worlds.nd) ts_nil))) (ss_one (s_if (a_tnot (a_tval (a_callO h_is_world hr (g_cons (av 0) (g_cons (av 4) g_nil))))) (ss_one s_never) ss_nil)))))
/-! check_run -/
abbrev s_check_run : Stmt := topS 34
abbrev N_check_run : List Str := ["scheme", "worlds"]
theorem sc_check_run : FnScope N_check_run ["scheme", "worlds"] (defScope s_check_run) := ⟨rfl, rfl, rfl, by decide +kernel, rfl, by decide +kernel, by decide +kernel⟩
def A_check_run : AF := fnA 2 (fSeq
    (fDrop (fCall A_check_scheme (fCons (fVar 0) fNil)))
    (fDrop (fCall A_check_worlds (fCons (fVar 0) (fCons (fVar 1) (fCons (fC c_LONGEST_RUN) fNil))))))
theorem ok_check_run {P : Program} {w : World} {K : PySem.W.Frag} {mg : Str → Option Value} {base : Heap} {cl : Nat → Addr} {f : Addr} {fd : FuncData} (h_check_scheme : CallOk P w K mg base cl "check_scheme" 1 1 A_check_scheme) (g_LONGEST_RUN : Glo K mg "LONGEST_RUN" c_LONGEST_RUN) (h_check_worlds : CallOk P w K mg base cl "check_worlds" 4 3 A_check_worlds) (F : Fun K "check_run" "check_run" s_check_run f fd) : FnOk P w K mg base CX0 5 f fd ["scheme", "worlds"] (cF K cl 2 A_check_run) :=
  fn_ok (N := N_check_run) (k := 4) F sc_check_run fun cdv A outer s H E hr =>
    (ss_cons
    (s_expr (a_callO h_check_scheme hr (g_cons (av 0) g_nil)))
    (ss_one (s_expr (a_callO h_check_worlds hr (g_cons (av 0) (g_cons (av 1) (g_cons (a_glob g_LONGEST_RUN) g_nil)))))))
/-! shown_by -/
abbrev s_shown_by : Stmt := topS 38
abbrev N_shown_by : List Str := ["scheme", "worlds", "state", "found", "world", "told"]
theorem sc_shown_by : FnScope N_shown_by ["scheme", "worlds"] (defScope s_shown_by) := ⟨rfl, rfl, rfl, by decide +kernel, rfl, by decide +kernel, by decide +kernel⟩
def A_shown_by : AF := fnA 6 (fSeq
    (fAsg (fCall A_beginning (fCons (fVar 0) fNil)) (gN 2))
    (fSeq
    (fAsg (fLst fNil) (gN 3))
    (fSeq
    (fFor (fItSeq (fVar 1)) (gN 4) (fSeq
    (fAsg (fCall A_stepped (fCons (fVar 0) (fCons (fVar 2) (fCons (fVar 4) fNil)))) (gTupD 2 (gsCons (gN 2) (gsCons (gN 5) gsNil))))
    (fDrop (fApp (fVar 3) (fVar 5)))))
    (fRet (fVar 3)))))
theorem ok_shown_by {P : Program} {w : World} {K : PySem.W.Frag} {mg : Str → Option Value} {base : Heap} {cl : Nat → Addr} {f : Addr} {fd : FuncData} (h_beginning : CallOk P w K mg base cl "beginning" 3 1 A_beginning) (h_stepped : CallOk P w K mg base cl "stepped" 5 3 A_stepped) (F : Fun K "shown_by" "shown_by" s_shown_by f fd) : FnOk P w K mg base CX0 6 f fd ["scheme", "worlds"] (cF K cl 2 A_shown_by) :=
  fn_ok (N := N_shown_by) (k := 5) F sc_shown_by fun cdv A outer s H E hr =>
    (ss_cons
    (s_set sc_shown_by.nd (a_callO h_beginning hr (g_cons (av 0) g_nil)))
    (ss_cons
    (s_set sc_shown_by.nd (a_lst g_nil))
    (ss_cons
    (s_for PassesOwn.never rfl (i_seq (av 1)) (t_name sc_shown_by.nd) (ss_cons
    (s_asg (a_callO h_stepped hr (g_cons (av 0) (g_cons (av 2) (g_cons (av 4) g_nil)))) (t_tup rfl (ts_cons (t_name sc_shown_by.nd) (ts_cons (t_name sc_shown_by.nd) ts_nil))))
    (ss_one (s_expr (a_append (av 3) (av 5) (fun _ _ ho ha => pe_bm PySem.F.plainAttrs_list PySem.F.slot_list_append PySem.F.type_list_append mt_append ho ha))))))
    (ss_one (s_ret (av 3))))))
/-! shown -/
abbrev s_shown : Stmt := topS 37
abbrev N_shown : List Str := ["scheme", "worlds"]
theorem sc_shown : FnScope N_shown ["scheme", "worlds"] (defScope s_shown) := ⟨rfl, rfl, rfl, by decide +kernel, rfl, by decide +kernel, by decide +kernel⟩
def A_shown : AF := fnA 2 (fSeq
    (fDrop (fCall A_check_run (fCons (fVar 0) (fCons (fVar 1) fNil))))
    (fRet (fCall A_shown_by (fCons (fVar 0) (fCons (fVar 1) fNil)))))
theorem ok_shown {P : Program} {w : World} {K : PySem.W.Frag} {mg : Str → Option Value} {base : Heap} {cl : Nat → Addr} {f : Addr} {fd : FuncData} (h_check_run : CallOk P w K mg base cl "check_run" 5 2 A_check_run) (h_shown_by : CallOk P w K mg base cl "shown_by" 6 2 A_shown_by) (F : Fun K "shown" "shown" s_shown f fd) : FnOk P w K mg base CX0 7 f fd ["scheme", "worlds"] (cF K cl 2 A_shown) :=
  fn_ok (N := N_shown) (k := 6) F sc_shown fun cdv A outer s H E hr =>
    (ss_cons
    (s_expr (a_callO h_check_run hr (g_cons (av 0) (g_cons (av 1) g_nil))))
    (ss_one (s_ret (a_callO h_shown_by hr (g_cons (av 0) (g_cons (av 1) g_nil))))))
/-! _law_world -/
abbrev s__law_world : Stmt := topS 48
abbrev N__law_world : List Str := ["_law_draw_here", "_law_sorts", "_law_found", "_law_at", "_law_kind"]
theorem sc__law_world : FnScope N__law_world ["_law_draw_here", "_law_sorts"] (defScope s__law_world) := ⟨rfl, rfl, rfl, by decide +kernel, rfl, by decide +kernel, by decide +kernel⟩
def A__law_world : AF := fnA 5 (fSeq
    (fAsg (fLst (fCons (fC (.bl false)) (fCons (fC (.bl false)) (fCons (fC (.bl false)) (fCons (fC .non) (fCons (fC (.int 0)) (fCons (fC (.int 0)) fNil))))))) (gN 2))
    (fSeq
    (fFor (fEnum (fC c_ALL_KINDS)) (gTupD 2 (gsCons (gN 3) (gsCons (gN 4) gsNil))) (fIfS (fAnd (fTst (fBin (oIn false) (fVar 4) (fVar 1))) (fTst (fBin (oEqD false) (fCall A__law_next (fCons (fVar 0) (fCons (fC (.int 3)) fNil))) (fC (.int 0))))) (fAsg (fIf (fTst (fBin oLt (fVar 3) (fC (.int 3)))) (fC (.bl true)) (fBin oAdd (fC (.int 1)) (fCall A__law_next (fCons (fVar 0) (fCons (fC (.int 2)) fNil))))) (gSubD (fVar 2) (fVar 3))) fNx))
    (fRet (fCB oTuple (fCons (fVar 2) fNil)))))
theorem ok__law_world {P : Program} {w : World} {K : PySem.W.Frag} {mg : Str → Option Value} {base : Heap} {cl : Nat → Addr} {f : Addr} {fd : FuncData} (g_ALL_KINDS : Glo K mg "ALL_KINDS" c_ALL_KINDS) (n_enumerate : mg "enumerate" = none) (h__law_next : CallOk P w K mg base cl "_law_next" 3 2 A__law_next) (n_tuple : mg "tuple" = none) (F : Fun K "_law_world" "_law_world" s__law_world f fd) : FnOk P w K mg base CX0 4 f fd ["_law_draw_here", "_law_sorts"] (cF K cl 2 A__law_world) :=
  fn_ok (N := N__law_world) (k := 3) F sc__law_world fun cdv A outer s H E hr =>
    (ss_cons
    (s_set sc__law_world.nd (a_lst (g_cons a_bl (g_cons a_bl (g_cons a_bl (g_cons a_non (g_cons a_int (g_cons a_int g_nil))))))))
    (ss_cons
    (s_for PassesOwn.never rfl (i_enum n_enumerate (a_glob g_ALL_KINDS)) (t_tup rfl (ts_cons (t_name sc__law_world.nd) (ts_cons (t_name sc__law_world.nd) ts_nil))) (ss_one (s_if (a_tw (w_and (a_tcmp op_in_seq opa_in (av 4) (av 1)) (w_and1 (a_tcmp (op_eqD hr.units) opa_eqD (a_callO h__law_next hr (g_cons (av 0) (g_cons a_int g_nil))) a_int)))) (ss_one (s_asg (a_if (a_tcmp op_lt opa_lt (av 3) a_int) a_bl (a_add a_int (a_callO h__law_next hr (g_cons (av 0) (g_cons a_int g_nil))))) (t_sub (av 2) (av 3)))) ss_nil)))
    (ss_one (s_ret (a_tuple n_tuple (av 2))))))
/-! _law_start -/
abbrev s__law_start : Stmt := topS 49
abbrev N__law_start : List Str := ["_law_scheme_here", "_law_code_here"]
theorem sc__law_start : FnScope N__law_start ["_law_scheme_here"] (defScope s__law_start) := ⟨rfl, rfl, rfl, by decide +kernel, rfl, by decide +kernel, by decide +kernel⟩
def A__law_start : AF := fnA 2 (fRet (fLst (fCons (fLc (fItSeq (fProp 0 A_Scheme_threads (fVar 0))) (gN 1) tYesA (fLst (fCons (fC (.int 0)) (fCons (fC (.int 0)) fNil))) [1]) (fCons (fC (.int 0)) (fCons (fC .non) (fCons (fLst (fCons (fC (.int 0)) (fCons (fC (.int 0)) (fCons (fC (.int 0)) fNil)))) (fCons (fC (.int 0)) (fCons (fLst fNil) (fCons (fC (.bl false)) (fCons (fC (.bl true)) (fCons (fC (.bl false)) fNil)))))))))))
theorem ok__law_start {P : Program} {w : World} {K : PySem.W.Frag} {mg : Str → Option Value} {base : Heap} {cl : Nat → Addr} {f : Addr} {fd : FuncData} (p_Scheme_threads : PropOk P w K mg base cl 0 "threads" 1 A_Scheme_threads) (F : Fun K "_law_start" "_law_start" s__law_start f fd) : FnOk P w K mg base CX0 3 f fd ["_law_scheme_here"] (cF K cl 1 A__law_start) :=
  fn_ok (N := N__law_start) (k := 2) F sc__law_start fun cdv A outer s H E hr =>
    (ss_one (s_ret (a_lst (g_cons (a_lc (own := [("_law_code_here", 1)]) rfl sc__law_start.nd (i_seq (a_propO p_Scheme_threads hr (av 0))) (blkOk_by (N := N__law_start) (sc := defScope s__law_start) (by decide +kernel)) (ct_name (by decide)) (fun _ _ _ _ _ => (pg_name (i := 1) sc__law_start.nd rfl (Or.inl rfl))) (fun _ _ _ _ _ => pts0) (fun _ _ _ _ _ => (a_lst (g_cons a_int (g_cons a_int g_nil))))) (g_cons a_int (g_cons a_non (g_cons (a_lst (g_cons a_int (g_cons a_int (g_cons a_int g_nil)))) (g_cons a_int (g_cons (a_lst g_nil) (g_cons a_bl (g_cons a_bl (g_cons a_bl g_nil))))))))))))
/-! _law_state -/
abbrev s__law_state : Stmt := topS 50
abbrev N__law_state : List Str := ["_law_core_here", "_law_inner", "_law_rows", "_law_row", "_law_first"]
theorem sc__law_state : FnScope N__law_state ["_law_core_here"] (defScope s__law_state) := ⟨rfl, rfl, rfl, by decide +kernel, rfl, by decide +kernel, by decide +kernel⟩
def A__law_state : AF := fnA 5 (fSeq
    (fAsg (fIf (fTst (fBin (oIsN false) (fBin oIx (fVar 0) (fC (.int 2))) (fC .non))) (fC .non) (fCB oTuple (fCons (fBin oIx (fVar 0) (fC (.int 2))) fNil))) (gN 1))
    (fSeq
    (fAsg (fCB oTuple (fCons (fLc (fItSeq (fBin oIx (fVar 0) (fC (.int 0)))) (gN 3) tYesA (fCB oTuple (fCons (fVar 3) fNil)) [3]) fNil)) (gN 2))
    (fSeq
    (fAsg (fTup (fCons (fVar 2) (fCons (fBin oIx (fVar 0) (fC (.int 1))) (fCons (fVar 1) (fCons (fCB oTuple (fCons (fBin oIx (fVar 0) (fC (.int 3))) fNil)) (fCons (fBin oIx (fVar 0) (fC (.int 4))) (fCons (fCB oTuple (fCons (fBin oIx (fVar 0) (fC (.int 5))) fNil)) fNil))))))) (gN 4))
    (fRet (fBin oAdd (fVar 4) (fTup (fCons (fBin oIx (fVar 0) (fC (.int 6))) (fCons (fBin oIx (fVar 0) (fC (.int 7))) (fCons (fBin oIx (fVar 0) (fC (.int 8))) fNil)))))))))
theorem ok__law_state {P : Program} {w : World} {K : PySem.W.Frag} {mg : Str → Option Value} {base : Heap} {cl : Nat → Addr} {f : Addr} {fd : FuncData} (n_tuple : mg "tuple" = none) (F : Fun K "_law_state" "_law_state" s__law_state f fd) : FnOk P w K mg base CX0 1 f fd ["_law_core_here"] (cF K cl 1 A__law_state) :=
  fn_ok (N := N__law_state) (k := 0) F sc__law_state fun cdv A outer s H E hr =>
    (ss_cons
    (s_set sc__law_state.nd (a_if (a_tcmp op_isN opa_isN (a_ix (av 0) a_int) a_non) a_non (a_tuple n_tuple (a_ix (av 0) a_int))))
    (ss_cons
    (s_set sc__law_state.nd (a_tuple n_tuple (a_lc (own := [("_law_row", 3)]) rfl sc__law_state.nd (i_seq (a_ix (av 0) a_int)) (blkOk_by (N := N__law_state) (sc := defScope s__law_state) (by decide +kernel)) (ct_name (by decide)) (fun _ _ _ _ _ => (pg_name (i := 3) sc__law_state.nd rfl (Or.inl rfl))) (fun _ _ _ _ _ => pts0) (fun _ _ _ _ _ => (a_tuple n_tuple (av 3))))))
    (ss_cons
    (s_set sc__law_state.nd (a_tup (g_cons (av 2) (g_cons (a_ix (av 0) a_int) (g_cons (av 1) (g_cons (a_tuple n_tuple (a_ix (av 0) a_int)) (g_cons (a_ix (av 0) a_int) (g_cons (a_tuple n_tuple (a_ix (av 0) a_int)) g_nil))))))))
    (ss_one (s_ret (a_add (av 4) (a_tup (g_cons (a_ix (av 0) a_int) (g_cons (a_ix (av 0) a_int) (g_cons (a_ix (av 0) a_int) g_nil))))))))))
/-! _law_meet -/
abbrev s__law_meet : Stmt := topS 52
abbrev N__law_meet : List Str := ["_law_scheme_here", "_law_core_here", "_law_world_here"]
theorem sc__law_meet : FnScope N__law_meet ["_law_scheme_here", "_law_core_here", "_law_world_here"] (defScope s__law_meet) := ⟨rfl, rfl, rfl, by decide +kernel, rfl, by decide +kernel, by decide +kernel⟩
def A__law_meet : AF := fnA 3 (fSeq
    (fAsg (fBin oMod (fCB oInt (fCons (fBin oAdd (fBin oIx (fVar 1) (fC (.int 4))) (fCB oInt (fCons (fBin oIx (fVar 2) (fC (.int 2))) fNil))) fNil)) (fC (.int 3))) (gSubD (fVar 1) (fC (.int 4))))
    (fSeq
    (fIfS (fAnd (fTst (fBin (oIsN true) (fBin oIx (fVar 2) (fC (.int 3))) (fC .non))) (fTst (fBin (oEqD false) (fCB oLen (fCons (fBin oIx (fVar 1) (fC (.int 5))) fNil)) (fC (.int 2))))) (fAsg (fC (.bl true)) (gSubD (fVar 1) (fC (.int 6)))) (fIfS (fTst (fBin (oIsN true) (fBin oIx (fVar 2) (fC (.int 3))) (fC .non))) (fDrop (fApp (fBin oIx (fVar 1) (fC (.int 5))) (fBin oIx (fVar 2) (fC (.int 3))))) fNx))
    (fSeq
    (fIfS (fTru (fBin oIx (fVar 2) (fC (.int 1)))) (fAsg (fC (.bl true)) (gSubD (fVar 1) (fC (.int 8)))) fNx)
    (fSeq
    (fIfS (fAnd (fTru (fBin oIx (fVar 2) (fC (.int 0)))) (fTst (fBin (oIsN false) (fBin oIx (fVar 1) (fC (.int 2))) (fC .non)))) (fAsg (fIf (fTst (fBin (oEqD false) (fBin oIx (fVar 1) (fC (.int 1))) (fBin oSub (fCB oLen (fCons (fBin oIx (fVar 1) (fC (.int 0))) fNil)) (fC (.int 1))))) (fC (.int 0)) (fBin oAdd (fBin oIx (fVar 1) (fC (.int 1))) (fC (.int 1)))) (gSubD (fVar 1) (fC (.int 1)))) fNx)
    (fIfS (fAnd (fTru (fBin oIx (fVar 1) (fC (.int 8)))) (fAnd (fTru (fBin oIx (fVar 1) (fC (.int 7)))) (fAnd (fTst (fBin (oIsN false) (fBin oIx (fVar 1) (fC (.int 2))) (fC .non))) (fTst (fBin (oEqD true) (fProp 0 A_Scheme_handler (fVar 0)) (fTup fNil)))))) (fAsg (fTup (fCons (fLst (fCons (fC (.int 0)) (fCons (fC (.int 0)) fNil))) (fCons (fC (.bl false)) fNil))) (gTupD 2 (gsCons (gSubD (fVar 1) (fC (.int 2))) (gsCons (gSubD (fVar 1) (fC (.int 8))) gsNil)))) fNx)))))
theorem ok__law_meet {P : Program} {w : World} {K : PySem.W.Frag} {mg : Str → Option Value} {base : Heap} {cl : Nat → Addr} {f : Addr} {fd : FuncData} (n_int : mg "int" = none) (n_len : mg "len" = none) (p_Scheme_handler : PropOk P w K mg base cl 0 "handler" 1 A_Scheme_handler) (F : Fun K "_law_meet" "_law_meet" s__law_meet f fd) : FnOk P w K mg base CX0 3 f fd ["_law_scheme_here", "_law_core_here", "_law_world_here"] (cF K cl 3 A__law_meet) :=
  fn_ok (N := N__law_meet) (k := 2) F sc__law_meet fun cdv A outer s H E hr =>
    (ss_cons
    (s_asg (a_mod (a_intc n_int (a_add (a_ix (av 1) a_int) (a_intc n_int (a_ix (av 2) a_int)))) a_int) (t_sub (av 1) a_int))
    (ss_cons
    (s_if (a_tw (w_and (a_tcmp op_notN opa_notN (a_ix (av 2) a_int) a_non) (w_and1 (a_tcmp (op_eqD hr.units) opa_eqD (a_len n_len (a_ix (av 1) a_int)) a_int)))) (ss_one (s_asg a_bl (t_sub (av 1) a_int))) (ss_one (s_if (a_tcmp op_notN opa_notN (a_ix (av 2) a_int) a_non) (ss_one (s_expr (a_append (a_ix (av 1) a_int) (a_ix (av 2) a_int) (fun _ _ ho ha => pe_bm PySem.F.plainAttrs_list PySem.F.slot_list_append PySem.F.type_list_append mt_append ho ha)))) ss_nil)))
    (ss_cons
    (s_if (a_tru (a_ix (av 2) a_int)) (ss_one (s_asg a_bl (t_sub (av 1) a_int))) ss_nil)
    (ss_cons
    (s_if (a_tw (w_and (a_tru (a_ix (av 2) a_int)) (w_and1 (a_tcmp op_isN opa_isN (a_ix (av 1) a_int) a_non)))) (ss_one (s_asg (a_if (a_tcmp (op_eqD hr.units) opa_eqD (a_ix (av 1) a_int) (a_sub (a_len n_len (a_ix (av 1) a_int)) a_int)) a_int (a_add (a_ix (av 1) a_int) a_int)) (t_sub (av 1) a_int))) ss_nil)
    (ss_one (s_if (a_tw (w_and (a_tru (a_ix (av 1) a_int)) (w_and (a_tru (a_ix (av 1) a_int)) (w_and (a_tcmp op_isN opa_isN (a_ix (av 1) a_int) a_non) (w_and1 (a_tcmp (op_neD hr.units) opa_neD (a_propO p_Scheme_handler hr (av 0)) (a_tup g_nil))))))) (ss_one (s_asg (a_tup (g_cons (a_lst (g_cons a_int (g_cons a_int g_nil))) (g_cons a_bl g_nil))) (t_tup rfl (ts_cons (t_sub (av 1) a_int) (ts_cons (t_sub (av 1) a_int) ts_nil))))) ss_nil))))))
/-! _law_brought -/
abbrev s__law_brought : Stmt := topS 53
abbrev N__law_brought : List Str := ["_law_core_here", "_law_word", "_law_number_here", "_law_world_here", "_law_late"]
theorem sc__law_brought : FnScope N__law_brought ["_law_core_here", "_law_word", "_law_number_here", "_law_world_here"] (defScope s__law_brought) := ⟨rfl, rfl, rfl, by decide +kernel, rfl, by decide +kernel, by decide +kernel⟩
def A__law_brought : AF := fnA 5 (fSeq
    (fIfS (fTst (fBin (oEqD false) (fVar 1) (fC (.str "set")))) (fRet (fVar 2)) fNx)
    (fSeq
    (fIfS (fTst (fBin (oEqD false) (fVar 1) (fC (.str "load")))) (fRet (fBin oIx (fBin oIx (fVar 0) (fC (.int 3))) (fVar 2))) fNx)
    (fSeq
    (fIfS (fTst (fBin (oEqD false) (fVar 1) (fC (.str "time")))) (fRet (fBin oIx (fVar 0) (fC (.int 4)))) fNx)
    (fSeq
    (fIfS (fTst (fBin (oEqD false) (fVar 1) (fC (.str "take")))) (fRet (fIf (fTst (fBin (oEqD true) (fBin oIx (fVar 0) (fC (.int 5))) (fLst fNil))) (fPopAt (fBin oIx (fVar 0) (fC (.int 5))) (fC (.int 0))) (fC (.int 0)))) fNx)
    (fSeq
    (fIfS (fTst (fBin (oEqD false) (fVar 1) (fC (.str "count")))) (fRet (fCB oLen (fCons (fBin oIx (fVar 0) (fC (.int 5))) fNil))) fNx)
    (fSeq
    (fIfS (fTst (fBin (oEqD false) (fVar 1) (fC (.str "spilt")))) (fSeq
    (fAsg (fIf (fTru (fBin oIx (fVar 0) (fC (.int 6)))) (fC (.int 1)) (fC (.int 0))) (gN 4))
    (fSeq
    (fAsg (fC (.bl false)) (gSubD (fVar 0) (fC (.int 6))))
    (fRet (fVar 4)))) fNx)
    (fRet (fIf (fTst (fBin (oEqD false) (fVar 1) (fC (.str "call")))) (fBin oIx (fVar 3) (fC (.int 4))) (fC .non)))))))))
theorem ok__law_brought {P : Program} {w : World} {K : PySem.W.Frag} {mg : Str → Option Value} {base : Heap} {cl : Nat → Addr} {f : Addr} {fd : FuncData} (n_len : mg "len" = none) (F : Fun K "_law_brought" "_law_brought" s__law_brought f fd) : FnOk P w K mg base CX0 1 f fd ["_law_core_here", "_law_word", "_law_number_here", "_law_world_here"] (cF K cl 4 A__law_brought) :=
  fn_ok (N := N__law_brought) (k := 0) F sc__law_brought fun cdv A outer s H E hr =>
    (ss_cons
    (s_if (a_tcmp (op_eqD hr.units) opa_eqD (av 1) a_str) (ss_one (s_ret (av 2))) ss_nil)
    (ss_cons
    (s_if (a_tcmp (op_eqD hr.units) opa_eqD (av 1) a_str) (ss_one (s_ret (a_ix (a_ix (av 0) a_int) (av 2)))) ss_nil)
    (ss_cons
    (s_if (a_tcmp (op_eqD hr.units) opa_eqD (av 1) a_str) (ss_one (s_ret (a_ix (av 0) a_int))) ss_nil)
    (ss_cons
    (s_if (a_tcmp (op_eqD hr.units) opa_eqD (av 1) a_str) (ss_one (s_ret (a_if (a_tcmp (op_neD hr.units) opa_neD (a_ix (av 0) a_int) (a_lst g_nil)) (a_popAt (a_ix (av 0) a_int) a_int (fun _ _ ho ha => pe_bm PySem.F.plainAttrs_list PySem.F.slot_list_pop PySem.F.type_list_pop mt_popAt ho ha)) a_int))) ss_nil)
    (ss_cons
    (s_if (a_tcmp (op_eqD hr.units) opa_eqD (av 1) a_str) (ss_one (s_ret (a_len n_len (a_ix (av 0) a_int)))) ss_nil)
    (ss_cons
    (s_if (a_tcmp (op_eqD hr.units) opa_eqD (av 1) a_str) (ss_cons
    (s_set sc__law_brought.nd (a_if (a_tru (a_ix (av 0) a_int)) a_int a_int))
    (ss_cons
    (s_asg a_bl (t_sub (av 0) a_int))
    (ss_one (s_ret (av 4))))) ss_nil)
    (ss_one (s_ret (a_if (a_tcmp (op_eqD hr.units) opa_eqD (av 1) a_str) (a_ix (av 3) a_int) a_non)))))))))
/-! _law_step -/
abbrev s__law_step : Stmt := topS 54
abbrev N__law_step : List Str := ["_law_scheme_here", "_law_core_here", "_law_world_here", "_law_code_here", "_law_spot", "_law_told", "_law_word", "_law_number_here", "_law_goal"]
theorem sc__law_step : FnScope N__law_step ["_law_scheme_here", "_law_core_here", "_law_world_here"] (defScope s__law_step) := ⟨rfl, rfl, rfl, by decide +kernel, rfl, by decide +kernel, by decide +kernel⟩
def A__law_step : AF := fnA 9 (fSeq
    (fDrop (fCall A__law_meet (fCons (fVar 0) (fCons (fVar 1) (fCons (fVar 2) fNil)))))
    (fSeq
    (fAsg (fIf (fTst (fBin (oIsN false) (fBin oIx (fVar 1) (fC (.int 2))) (fC .non))) (fBin oIx (fProp 0 A_Scheme_threads (fVar 0)) (fBin oIx (fVar 1) (fC (.int 1)))) (fProp 0 A_Scheme_handler (fVar 0))) (gN 3))
    (fSeq
    (fAsg (fIf (fTst (fBin (oIsN false) (fBin oIx (fVar 1) (fC (.int 2))) (fC .non))) (fBin oIx (fBin oIx (fVar 1) (fC (.int 0))) (fBin oIx (fVar 1) (fC (.int 1)))) (fBin oIx (fVar 1) (fC (.int 2)))) (gN 4))
    (fSeq
    (fAsg (fC .non) (gN 5))
    (fSeq
    (fAsg (fBin oIx (fVar 3) (fBin oIx (fVar 4) (fC (.int 0)))) (gTupD 2 (gsCons (gN 6) (gsCons (gN 7) gsNil))))
    (fSeq
    (fAsg (fBin oAdd (fBin oIx (fVar 4) (fC (.int 0))) (fC (.int 1))) (gN 8))
    (fSeq
    (fIfS (fTst (fBin (oEqD false) (fVar 6) (fC (.str "show")))) (fAsg (fBin oIx (fVar 4) (fC (.int 1))) (gN 5)) (fIfS (fTst (fBin (oEqD false) (fVar 6) (fC (.str "add")))) (fAsg (fBin oMod (fCB oInt (fCons (fBin oAdd (fBin oIx (fVar 4) (fC (.int 1))) (fBin oIx (fBin oIx (fVar 1) (fC (.int 3))) (fVar 7))) fNil)) (fC (.int 3))) (gSubD (fVar 4) (fC (.int 1)))) (fIfS (fTst (fBin (oEqD false) (fVar 6) (fC (.str "save")))) (fAsg (fBin oIx (fVar 4) (fC (.int 1))) (gSubD (fBin oIx (fVar 1) (fC (.int 3))) (fVar 7))) (fIfS (fTst (fBin (oEqD false) (fVar 6) (fC (.str "first")))) (fAsg (fBin oIx (fVar 2) (fC (.int 5))) (gSubD (fBin oIx (fVar 1) (fC (.int 3))) (fVar 7))) (fIfS (fTst (fBin (oIn false) (fVar 6) (fTup (fCons (fC (.str "shut")) (fCons (fC (.str "open")) fNil))))) (fAsg (fBin (oEqD false) (fVar 6) (fC (.str "open"))) (gSubD (fVar 1) (fC (.int 7)))) (fIfS (fTst (fBin (oEqD false) (fVar 6) (fC (.str "jump")))) (fAsg (fIf (fTst (fBin (oEqD false) (fBin oIx (fVar 4) (fC (.int 1))) (fC (.int 0)))) (fVar 7) (fVar 8)) (gN 8)) (fAsg (fCall A__law_brought (fCons (fVar 1) (fCons (fVar 6) (fCons (fVar 7) (fCons (fVar 2) fNil))))) (gSubD (fVar 4) (fC (.int 1))))))))))
    (fSeq
    (fAsg (fIf (fTst (fBin oLt (fVar 8) (fCB oLen (fCons (fVar 3) fNil)))) (fVar 8) (fC (.int 0))) (gSubD (fVar 4) (fC (.int 0))))
    (fSeq
    (fIfS (fTst (fBin (oEqD false) (fVar 8) (fCB oLen (fCons (fVar 3) fNil)))) (fAsg (fC .non) (gSubD (fVar 1) (fC (.int 2)))) fNx)
    (fRet (fTup (fCons (fVar 5) (fCons (fTup (fCons (fVar 6) (fCons (fVar 7) fNil))) fNil)))))))))))))
theorem ok__law_step {P : Program} {w : World} {K : PySem.W.Frag} {mg : Str → Option Value} {base : Heap} {cl : Nat → Addr} {f : Addr} {fd : FuncData} (h__law_meet : CallOk P w K mg base cl "_law_meet" 3 3 A__law_meet) (p_Scheme_threads : PropOk P w K mg base cl 0 "threads" 1 A_Scheme_threads) (p_Scheme_handler : PropOk P w K mg base cl 0 "handler" 1 A_Scheme_handler) (n_int : mg "int" = none) (h__law_brought : CallOk P w K mg base cl "_law_brought" 1 4 A__law_brought) (n_len : mg "len" = none) (F : Fun K "_law_step" "_law_step" s__law_step f fd) : FnOk P w K mg base CX0 4 f fd ["_law_scheme_here", "_law_core_here", "_law_world_here"] (cF K cl 3 A__law_step) :=
  fn_ok (N := N__law_step) (k := 3) F sc__law_step fun cdv A outer s H E hr =>
    (ss_cons
    (s_expr (a_callO h__law_meet hr (g_cons (av 0) (g_cons (av 1) (g_cons (av 2) g_nil)))))
    (ss_cons
    (s_set sc__law_step.nd (a_if (a_tcmp op_isN opa_isN (a_ix (av 1) a_int) a_non) (a_ix (a_propO p_Scheme_threads hr (av 0)) (a_ix (av 1) a_int)) (a_propO p_Scheme_handler hr (av 0))))
    (ss_cons
    (s_set sc__law_step.nd (a_if (a_tcmp op_isN opa_isN (a_ix (av 1) a_int) a_non) (a_ix (a_ix (av 1) a_int) (a_ix (av 1) a_int)) (a_ix (av 1) a_int)))
    (ss_cons
    (s_set sc__law_step.nd a_non)
    (ss_cons
    (s_asg (a_ix (av 3) (a_ix (av 4) a_int)) (t_tup rfl (ts_cons (t_name sc__law_step.nd) (ts_cons (t_name sc__law_step.nd) ts_nil))))
    (ss_cons
    (s_set sc__law_step.nd (a_add (a_ix (av 4) a_int) a_int))
    (ss_cons
    (s_if (a_tcmp (op_eqD hr.units) opa_eqD (av 6) a_str) (ss_one (s_set sc__law_step.nd (a_ix (av 4) a_int))) (ss_one (s_if (a_tcmp (op_eqD hr.units) opa_eqD (av 6) a_str) (ss_one (s_asg (a_mod (a_intc n_int (a_add (a_ix (av 4) a_int) (a_ix (a_ix (av 1) a_int) (av 7)))) a_int) (t_sub (av 4) a_int))) (ss_one (s_if (a_tcmp (op_eqD hr.units) opa_eqD (av 6) a_str) (ss_one (s_asg (a_ix (av 4) a_int) (t_sub (a_ix (av 1) a_int) (av 7)))) (ss_one (s_if (a_tcmp (op_eqD hr.units) opa_eqD (av 6) a_str) (ss_one (s_asg (a_ix (av 2) a_int) (t_sub (a_ix (av 1) a_int) (av 7)))) (ss_one (s_if (a_tcmp op_in_seq opa_in (av 6) (a_tup (g_cons a_str (g_cons a_str g_nil)))) (ss_one (s_asg (a_cmp (op_eqD hr.units) opa_eqD (av 6) a_str) (t_sub (av 1) a_int))) (ss_one (s_if (a_tcmp (op_eqD hr.units) opa_eqD (av 6) a_str) (ss_one (s_set sc__law_step.nd (a_if (a_tcmp (op_eqD hr.units) opa_eqD (a_ix (av 4) a_int) a_int) (av 7) (av 8)))) (ss_one (s_asg (a_callO h__law_brought hr (g_cons (av 1) (g_cons (av 6) (g_cons (av 7) (g_cons (av 2) g_nil))))) (t_sub (av 4) a_int))))))))))))))
    (ss_cons
    (s_asg (a_if (a_tcmp op_lt opa_lt (av 8) (a_len n_len (av 3))) (av 8) a_int) (t_sub (av 4) a_int))
    (ss_cons
    (s_if (a_tcmp (op_eqD hr.units) opa_eqD (av 8) (a_len n_len (av 3))) (ss_one (s_asg a_non (t_sub (av 1) a_int))) ss_nil)
    (ss_one (s_ret (a_tup (g_cons (av 5) (g_cons (a_tup (g_cons (av 6) (g_cons (av 7) g_nil))) g_nil))))))))))))))
/-! _law_core -/
abbrev s__law_core : Stmt := topS 51
abbrev N__law_core : List Str := ["_law_value", "_law_inner", "_law_rows", "_law_row", "_law_first"]
theorem sc__law_core : FnScope N__law_core ["_law_value"] (defScope s__law_core) := ⟨rfl, rfl, rfl, by decide +kernel, rfl, by decide +kernel, by decide +kernel⟩
def A__law_core : AF := fnA 5 (fSeq
    (fAsg (fIf (fTst (fBin (oIsN false) (fBin oIx (fVar 0) (fC (.int 2))) (fC .non))) (fC .non) (fCB oList (fCons (fBin oIx (fVar 0) (fC (.int 2))) fNil))) (gN 1))
    (fSeq
    (fAsg (fLc (fItSeq (fBin oIx (fVar 0) (fC (.int 0)))) (gN 3) tYesA (fCB oList (fCons (fVar 3) fNil)) [3]) (gN 2))
    (fSeq
    (fAsg (fLst (fCons (fVar 2) (fCons (fBin oIx (fVar 0) (fC (.int 1))) (fCons (fVar 1) (fCons (fCB oList (fCons (fBin oIx (fVar 0) (fC (.int 3))) fNil)) (fCons (fBin oIx (fVar 0) (fC (.int 4))) (fCons (fCB oList (fCons (fBin oIx (fVar 0) (fC (.int 5))) fNil)) fNil))))))) (gN 4))
    (fRet (fBin oAdd (fVar 4) (fLst (fCons (fBin oIx (fVar 0) (fC (.int 6))) (fCons (fBin oIx (fVar 0) (fC (.int 7))) (fCons (fBin oIx (fVar 0) (fC (.int 8))) fNil)))))))))
theorem ok__law_core {P : Program} {w : World} {K : PySem.W.Frag} {mg : Str → Option Value} {base : Heap} {cl : Nat → Addr} {f : Addr} {fd : FuncData} (n_list : mg "list" = none) (F : Fun K "_law_core" "_law_core" s__law_core f fd) : FnOk P w K mg base CX0 1 f fd ["_law_value"] (cF K cl 1 A__law_core) :=
  fn_ok (N := N__law_core) (k := 0) F sc__law_core fun cdv A outer s H E hr =>
    (ss_cons
    (s_set sc__law_core.nd (a_if (a_tcmp op_isN opa_isN (a_ix (av 0) a_int) a_non) a_non (a_list n_list (a_ix (av 0) a_int))))
    (ss_cons
    (s_setLc (i := 2) (own := [("_law_row", 3)]) rfl sc__law_core.nd (i_seq (a_ix (av 0) a_int)) (blkOk_by (N := N__law_core) (sc := defScope s__law_core) (by decide +kernel)) (ct_name (by decide)) (fun _ _ _ _ _ => (pg_name (i := 3) sc__law_core.nd rfl (Or.inl rfl))) (fun _ _ _ _ _ => pts0) (fun _ _ _ _ _ => (a_list n_list (av 3))) (sw_true rfl rfl rfl (by decide +kernel)))
    (ss_cons
    (s_set sc__law_core.nd (a_lst (g_cons (av 2) (g_cons (a_ix (av 0) a_int) (g_cons (av 1) (g_cons (a_list n_list (a_ix (av 0) a_int)) (g_cons (a_ix (av 0) a_int) (g_cons (a_list n_list (a_ix (av 0) a_int)) g_nil))))))))
    (ss_one (s_ret (a_add (av 4) (a_lst (g_cons (a_ix (av 0) a_int) (g_cons (a_ix (av 0) a_int) (g_cons (a_ix (av 0) a_int) g_nil))))))))))
/-! _law_next_one -/
abbrev s__law_next_one : Stmt := topS 55
abbrev N__law_next_one : List Str := ["_law_scheme_here", "_law_core_here", "_law_late"]
theorem sc__law_next_one : FnScope N__law_next_one ["_law_scheme_here", "_law_core_here"] (defScope s__law_next_one) := ⟨rfl, rfl, rfl, by decide +kernel, rfl, by decide +kernel, by decide +kernel⟩
def A__law_next_one : AF := fnA 3 (fSeq
    (fAsg (fCall A__law_core (fCons (fCall A__law_state (fCons (fVar 1) fNil)) fNil)) (gN 2))
    (fSeq
    (fDrop (fCall A__law_meet (fCons (fVar 0) (fCons (fVar 2) (fCons (fC c_QUIET) fNil)))))
    (fSeq
    (fIfS (fTst (fBin (oIsN true) (fBin oIx (fVar 2) (fC (.int 2))) (fC .non))) (fRet (fTup (fCons (fC .non) (fCons (fBin oIx (fProp 0 A_Scheme_handler (fVar 0)) (fBin oIx (fBin oIx (fVar 2) (fC (.int 2))) (fC (.int 0)))) fNil)))) fNx)
    (fRet (fTup (fCons (fBin oIx (fVar 2) (fC (.int 1))) (fCons (fBin oIx (fBin oIx (fProp 0 A_Scheme_threads (fVar 0)) (fBin oIx (fVar 2) (fC (.int 1)))) (fBin oIx (fBin oIx (fBin oIx (fVar 2) (fC (.int 0))) (fBin oIx (fVar 2) (fC (.int 1)))) (fC (.int 0)))) fNil)))))))
theorem ok__law_next_one {P : Program} {w : World} {K : PySem.W.Frag} {mg : Str → Option Value} {base : Heap} {cl : Nat → Addr} {f : Addr} {fd : FuncData} (h__law_state : CallOk P w K mg base cl "_law_state" 1 1 A__law_state) (h__law_core : CallOk P w K mg base cl "_law_core" 1 1 A__law_core) (g_QUIET : Glo K mg "QUIET" c_QUIET) (h__law_meet : CallOk P w K mg base cl "_law_meet" 3 3 A__law_meet) (p_Scheme_handler : PropOk P w K mg base cl 0 "handler" 1 A_Scheme_handler) (p_Scheme_threads : PropOk P w K mg base cl 0 "threads" 1 A_Scheme_threads) (F : Fun K "_law_next_one" "_law_next_one" s__law_next_one f fd) : FnOk P w K mg base CX0 4 f fd ["_law_scheme_here", "_law_core_here"] (cF K cl 2 A__law_next_one) :=
  fn_ok (N := N__law_next_one) (k := 3) F sc__law_next_one fun cdv A outer s H E hr =>
    (ss_cons
    (s_set sc__law_next_one.nd (a_callO h__law_core hr (g_cons (a_callO h__law_state hr (g_cons (av 1) g_nil)) g_nil)))
    (ss_cons
    (s_expr (a_callO h__law_meet hr (g_cons (av 0) (g_cons (av 2) (g_cons (a_glob g_QUIET) g_nil)))))
    (ss_cons
    (s_if (a_tcmp op_notN opa_notN (a_ix (av 2) a_int) a_non) (ss_one (s_ret (a_tup (g_cons a_non (g_cons (a_ix (a_propO p_Scheme_handler hr (av 0)) (a_ix (a_ix (av 2) a_int) a_int)) g_nil))))) ss_nil)
    (ss_one (s_ret (a_tup (g_cons (a_ix (av 2) a_int) (g_cons (a_ix (a_ix (a_propO p_Scheme_threads hr (av 0)) (a_ix (av 2) a_int)) (a_ix (a_ix (a_ix (av 2) a_int) (a_ix (av 2) a_int)) a_int)) g_nil))))))))
/-! _law_run_right -/
abbrev s__law_run_right : Stmt := topS 56
abbrev N__law_run_right : List Str := ["_law_draw_here", "_law_scheme_here", "_law_many", "_law_machine", "_law_core_here", "_law_worlds", "_law_told", "_law_turn", "_law_world_here", "_law_twin", "_law_late", "_law_due"]
theorem sc__law_run_right : FnScope N__law_run_right ["_law_draw_here", "_law_scheme_here", "_law_many"] (defScope s__law_run_right) := ⟨rfl, rfl, rfl, by decide +kernel, rfl, by decide +kernel, by decide +kernel⟩
def A__law_run_right : AF := fnA 12 (fSeq
    (fPar 3 4 (fCons (fMake 1 A_Machine_init (fCons (fVar 1) fNil)) (fCons (fCall A__law_start (fCons (fVar 1) fNil)) fNil)))
    (fSeq
    (fPar 5 6 (fCons (fLst fNil) (fCons (fLst fNil) fNil)))
    (fSeq
    (fFor (fRng1 (fCons (fVar 2) fNil)) (gN 7) (fSeq
    (fAsg (fCall A__law_world (fCons (fVar 0) (fCons (fProp 0 A_Scheme_kinds (fVar 1)) fNil))) (gN 8))
    (fSeq
    (fIfS (fTst (fBin (oEqD true) (fMeth 1 "next" A_Machine_next (fVar 3) fNil) (fCall A__law_next_one (fCons (fVar 1) (fCons (fVar 4) fNil))))) (fRet (fC (.bl false))) fNx)
    (fSeq
    (fIfS (fNot (fTst (fCall A_is_world (fCons (fVar 1) (fCons (fVar 8) fNil))))) (fRet (fC (.bl false))) fNx)
    (fSeq
    (fAsg (fMeth 1 "copy" A_Machine_copy (fVar 3) fNil) (gN 9))
    (fSeq
    (fAsg (fCall A_machine_at (fCons (fVar 1) (fCons (fProp 1 A_Machine_state (fVar 3)) fNil))) (gN 10))
    (fSeq
    (fAsg (fBin oIx (fCall A__law_step (fCons (fVar 1) (fCons (fVar 4) (fCons (fVar 8) fNil)))) (fC (.int 0))) (gN 11))
    (fSeq
    (fIfS (fTst (fBin (oEqD true) (fMeth 1 "step" A_Machine_step (fVar 3) (fCons (fVar 8) fNil)) (fVar 11))) (fRet (fC (.bl false))) fNx)
    (fSeq
    (fIfS (fTst (fBin (oEqD true) (fProp 1 A_Machine_state (fVar 3)) (fCall A__law_state (fCons (fVar 4) fNil)))) (fRet (fC (.bl false))) fNx)
    (fSeq
    (fIfS (fTst (fBin (oEqD true) (fProp 1 A_Machine_steps (fVar 3)) (fBin oAdd (fVar 7) (fC (.int 1))))) (fRet (fC (.bl false))) fNx)
    (fSeq
    (fIfS (fOr (fTst (fBin (oEqD true) (fProp 1 A_Machine_steps (fVar 9)) (fVar 7))) (fOr (fTst (fBin (oEqD true) (fProp 1 A_Machine_steps (fVar 10)) (fC (.int 0)))) (fNot (fTst (fBin (oEqO 1 A_Machine_eq) (fVar 9) (fVar 10)))))) (fRet (fC (.bl false))) fNx)
    (fSeq
    (fIfS (fOr (fTst (fBin (oEqD true) (fMeth 1 "step" A_Machine_step (fVar 10) (fCons (fVar 8) fNil)) (fVar 11))) (fNot (fTst (fBin (oEqO 1 A_Machine_eq) (fVar 10) (fVar 3))))) (fRet (fC (.bl false))) fNx)
    (fSeq
    (fIfS (fTst (fBin (oEqD true) (fMeth 1 "step" A_Machine_step (fVar 9) (fCons (fVar 8) fNil)) (fVar 11))) (fRet (fC (.bl false))) fNx)
    (fSeq
    (fIfS (fOr (fTst (fBin (oEqD true) (fProp 1 A_Machine_steps (fVar 10)) (fC (.int 1)))) (fTst (fBin (oEqD true) (fProp 1 A_Machine_steps (fVar 9)) (fBin oAdd (fVar 7) (fC (.int 1)))))) (fRet (fC (.bl false))) fNx)
    (fSeq
    (fDrop (fApp (fVar 5) (fVar 8)))
    (fDrop (fApp (fVar 6) (fVar 11))))))))))))))))))
    (fRet (fAndV (fBin (oEqD false) (fCall A_shown (fCons (fVar 1) (fCons (fVar 5) fNil))) (fVar 6)) (fBin (oEqD false) (fCall A_shown (fCons (fVar 1) (fCons (fCB oTuple (fCons (fVar 5) fNil)) fNil))) (fVar 6)))))))
theorem ok__law_run_right {P : Program} {w : World} {K : PySem.W.Frag} {mg : Str → Option Value} {base : Heap} {cl : Nat → Addr} {f : Addr} {fd : FuncData} (h__law_start : CallOk P w K mg base cl "_law_start" 3 1 A__law_start) (m_Machine : MakeOk P w K mg base cl 1 "Machine" 4 1 A_Machine_init) (n_range : mg "range" = none) (p_Scheme_kinds : PropOk P w K mg base cl 0 "kinds" 1 A_Scheme_kinds) (h__law_world : CallOk P w K mg base cl "_law_world" 4 2 A__law_world) (m_Machine_next : MethOk P w K mg base cl 1 "next" 5 1 A_Machine_next) (h__law_next_one : CallOk P w K mg base cl "_law_next_one" 4 2 A__law_next_one) (h_is_world : CallOk P w K mg base cl "is_world" 3 2 A_is_world) (m_Machine_copy : MethOk P w K mg base cl 1 "copy" 7 1 A_Machine_copy) (p_Machine_state : PropOk P w K mg base cl 1 "state" 1 A_Machine_state) (h_machine_at : CallOk P w K mg base cl "machine_at" 6 2 A_machine_at) (h__law_step : CallOk P w K mg base cl "_law_step" 4 3 A__law_step) (m_Machine_step : MethOk P w K mg base cl 1 "step" 6 2 A_Machine_step) (h__law_state : CallOk P w K mg base cl "_law_state" 1 1 A__law_state) (p_Machine_steps : PropOk P w K mg base cl 1 "steps" 1 A_Machine_steps) (e_Machine : EqOk P w K mg base cl 1 2 A_Machine_eq) (h_shown : CallOk P w K mg base cl "shown" 7 2 A_shown) (n_tuple : mg "tuple" = none) (F : Fun K "_law_run_right" "_law_run_right" s__law_run_right f fd) : FnOk P w K mg base CX0 8 f fd ["_law_draw_here", "_law_scheme_here", "_law_many"] (cF K cl 3 A__law_run_right) :=
  fn_ok (N := N__law_run_right) (k := 7) F sc__law_run_right fun cdv A outer s H E hr =>
    (ss_cons
    (s_par rfl sc__law_run_right.nd (by decide) (g_cons (a_makeO m_Machine hr (g_cons (av 1) g_nil)) (g_cons (a_callO h__law_start hr (g_cons (av 1) g_nil)) g_nil)) (fun _ h => ps_par rfl sc__law_run_right.nd rfl rfl (by decide) rfl rfl h (by rfl)))
    (ss_cons
    (s_par rfl sc__law_run_right.nd (by decide) (g_cons (a_lst g_nil) (g_cons (a_lst g_nil) g_nil)) (fun _ h => ps_par rfl sc__law_run_right.nd rfl rfl (by decide) rfl rfl h (by rfl)))
    (ss_cons
    (s_for PassesOwn.never rfl (i_range1 n_range (g_cons (av 2) g_nil)) (t_name sc__law_run_right.nd) (ss_cons
    (s_set sc__law_run_right.nd (a_callO h__law_world hr (g_cons (av 0) (g_cons (a_propO p_Scheme_kinds hr (av 1)) g_nil))))
    (ss_cons
    (s_if (a_tcmp (op_neD hr.units) opa_neD (a_methO0 _ m_Machine_next hr (av 3)) (a_callO h__law_next_one hr (g_cons (av 1) (g_cons (av 4) g_nil)))) (ss_one (s_ret a_bl)) ss_nil)
    (ss_cons
    (s_if (a_tnot (a_tval (a_callO h_is_world hr (g_cons (av 1) (g_cons (av 8) g_nil))))) (ss_one (s_ret a_bl)) ss_nil)
    (ss_cons
    (s_set sc__law_run_right.nd (a_methO0 _ m_Machine_copy hr (av 3)))
    (ss_cons
    (s_set sc__law_run_right.nd (a_callO h_machine_at hr (g_cons (av 1) (g_cons (a_propO p_Machine_state hr (av 3)) g_nil))))
    (ss_cons
    (s_set sc__law_run_right.nd (a_ix (a_callO h__law_step hr (g_cons (av 1) (g_cons (av 4) (g_cons (av 8) g_nil)))) a_int))
    (ss_cons
    (s_if (a_tcmp (op_neD hr.units) opa_neD (a_methO _ m_Machine_step hr (av 3) (g_cons (av 8) g_nil)) (av 11)) (ss_one (s_ret a_bl)) ss_nil)
    (ss_cons
    (s_if (a_tcmp (op_neD hr.units) opa_neD (a_propO p_Machine_state hr (av 3)) (a_callO h__law_state hr (g_cons (av 4) g_nil))) (ss_one (s_ret a_bl)) ss_nil)
    (ss_cons
    (s_if (a_tcmp (op_neD hr.units) opa_neD (a_propO p_Machine_steps hr (av 3)) (a_add (av 7) a_int)) (ss_one (s_ret a_bl)) ss_nil)
    (ss_cons
    (s_if (a_tw (w_or (a_tcmp (op_neD hr.units) opa_neD (a_propO p_Machine_steps hr (av 9)) (av 7)) (w_or (a_tcmp (op_neD hr.units) opa_neD (a_propO p_Machine_steps hr (av 10)) a_int) (w_or1 (a_tnot (a_teqO e_Machine hr (av 9) (av 10))))))) (ss_one (s_ret a_bl)) ss_nil)
    (ss_cons
    (s_if (a_tw (w_or (a_tcmp (op_neD hr.units) opa_neD (a_methO _ m_Machine_step hr (av 10) (g_cons (av 8) g_nil)) (av 11)) (w_or1 (a_tnot (a_teqO e_Machine hr (av 10) (av 3)))))) (ss_one (s_ret a_bl)) ss_nil)
    (ss_cons
    (s_if (a_tcmp (op_neD hr.units) opa_neD (a_methO _ m_Machine_step hr (av 9) (g_cons (av 8) g_nil)) (av 11)) (ss_one (s_ret a_bl)) ss_nil)
    (ss_cons
    (s_if (a_tw (w_or (a_tcmp (op_neD hr.units) opa_neD (a_propO p_Machine_steps hr (av 10)) a_int) (w_or1 (a_tcmp (op_neD hr.units) opa_neD (a_propO p_Machine_steps hr (av 9)) (a_add (av 7) a_int))))) (ss_one (s_ret a_bl)) ss_nil)
    (ss_cons
    (s_expr (a_append (av 5) (av 8) (fun _ _ ho ha => pe_bm PySem.F.plainAttrs_list PySem.F.slot_list_append PySem.F.type_list_append mt_append ho ha)))
    (ss_one (s_expr (a_append (av 6) (av 11) (fun _ _ ho ha => pe_bm PySem.F.plainAttrs_list PySem.F.slot_list_append PySem.F.type_list_append mt_append ho ha)))))))))))))))))))
    (ss_one (s_ret (a_and (a_cmp (op_eqD hr.units) opa_eqD (a_callO h_shown hr (g_cons (av 1) (g_cons (av 5) g_nil))) (av 6)) (a_one (a_cmp (op_eqD hr.units) opa_eqD (a_callO h_shown hr (g_cons (av 1) (g_cons (a_tuple n_tuple (av 5)) g_nil))) (av 6)))))))))
/-! law -/
abbrev s_law : Stmt := topS 57
abbrev N_law : List Str := ["_law_script", "_law_by", "_law_draw_here", "_law_scheme_here"]
theorem sc_law : FnScope N_law ["_law_script"] (defScope s_law) := ⟨rfl, rfl, rfl, by decide +kernel, rfl, by decide +kernel, by decide +kernel⟩
def A_law : AF := fnA 4 (fSeq
    (fFor (fRng3 (fCons (fC (.int 0)) (fCons (fCB oMax2 (fCons (fC (.int 1)) (fCons (fCB oMin2 (fCons (fC (.int 24)) (fCons (fCB oLen (fCons (fVar 0) fNil)) fNil))) fNil))) (fCons (fC (.int 8)) fNil)))) (gN 1) (fSeq
    (fAsg (fLst (fCons (fVar 0) (fCons (fVar 1) (fCons (fC (.int 0)) fNil)))) (gN 2))
    (fSeq
    (fAsg (fCall A__law_scheme (fCons (fVar 2) (fCons (fC (.int 3)) (fCons (fC (.int 5)) (fCons (fC c_ALL_KINDS) fNil))))) (gN 3))
    (fIfS (fNot (fTst (fCall A__law_run_right (fCons (fVar 2) (fCons (fVar 3) (fCons (fBin oAdd (fC (.int 10)) (fCall A__law_next (fCons (fVar 2) (fCons (fC (.int 30)) fNil)))) fNil)))))) (fRet (fC (.bl false))) fNx))))
    (fRet (fC (.bl true))))
theorem ok_law {P : Program} {w : World} {K : PySem.W.Frag} {mg : Str → Option Value} {base : Heap} {cl : Nat → Addr} {f : Addr} {fd : FuncData} (n_len : mg "len" = none) (n_min : mg "min" = none) (n_max : mg "max" = none) (n_range : mg "range" = none) (g_ALL_KINDS : Glo K mg "ALL_KINDS" c_ALL_KINDS) (h__law_scheme : CallOk P w K mg base cl "_law_scheme" 7 4 A__law_scheme) (h__law_next : CallOk P w K mg base cl "_law_next" 3 2 A__law_next) (h__law_run_right : CallOk P w K mg base cl "_law_run_right" 8 3 A__law_run_right) (F : Fun K "law" "law" s_law f fd) : FnOk P w K mg base CX0 9 f fd ["_law_script"] (cF K cl 1 A_law) :=
  fn_ok (N := N_law) (k := 8) F sc_law fun cdv A outer s H E hr =>
    (ss_cons
    (s_for PassesOwn.never rfl (i_range3 n_range (fun _ h => pi_range3 rfl n_range h) (g_cons a_int (g_cons (a_cb (call_max2 rfl) caa_max2 n_max (by decide +kernel) (g_cons a_int (g_cons (a_cb (call_min2 rfl) caa_min2 n_min (by decide +kernel) (g_cons a_int (g_cons (a_len n_len (av 0)) g_nil))) g_nil))) (g_cons a_int g_nil)))) (t_name sc_law.nd) (ss_cons
    (s_set sc_law.nd (a_lst (g_cons (av 0) (g_cons (av 1) (g_cons a_int g_nil)))))
    (ss_cons
    (s_set sc_law.nd (a_callO h__law_scheme hr (g_cons (av 2) (g_cons a_int (g_cons a_int (g_cons (a_glob g_ALL_KINDS) g_nil))))))
    (ss_one (s_if (a_tnot (a_tval (a_callO h__law_run_right hr (g_cons (av 2) (g_cons (av 3) (g_cons (a_add a_int (a_callO h__law_next hr (g_cons (av 2) (g_cons a_int g_nil)))) g_nil)))))) (ss_one (s_ret a_bl)) ss_nil)))))
    (ss_one (s_ret a_bl)))
end SM
namespace SM
open PySem L2 AL
local macro_rules | `(tactic| walk_at "ev") => `(tactic| simp only [fnA, fSeq, fNx, fIfS, fTst, fTru, truD, fBin, oAdd, oI0, oI, oLt, oLe, oGt, oGe, oSub, oMul, oDiv, oMod, oPow, fVar, fC, fCB, fCons, fNil, fCall, oLen, oInt, oMax2, oMin2, seqOf, lstOf, mutOf, fRet, fRetN, fAsg, gN, fAnd, fOr, fNot, fAndV, fOrV, fNotV, fIf, fTup, fLst, oIx, fDrop, fPar, fChain, oIsN, D.isNon, fFor, fRng1, fuelOf, gSubD, rlim,
  List.map_cons, List.map_nil, List.length_cons, List.length_nil, List.replicate, List.cons_append, List.nil_append, List.append_nil, List.getElem?_cons_zero, List.getElem?_cons_succ, List.set_cons_zero, List.set_cons_succ, Nat.reduceAdd, Nat.reduceSub, Nat.reduceLeDiff, Nat.reduceLT, if_true, if_false, Bool.not_true, Bool.not_false, Nat.sub_zero, Nat.sub_self, big, Int.reduceLT, Int.reduceLE, Int.reduceEq, Nat.reduceEqDiff, Int.reduceAdd, Int.reduceSub, Int.reduceMul, Int.reduceMod, Int.reduceDiv, and_self, decide_true, decide_false, Bool.false_eq_true, *])
theorem atI_ints {ns : List Int} {k : Int} (h0 : 0 ≤ k) (h : k < (ns.length : Int)) : ∃ v, atI (ns.map D.int) k = some (.int v) := by
  obtain ⟨j, rfl⟩ : ∃ j : Nat, k = (j : Int) := ⟨k.toNat, by omega⟩
  have hj : j < ns.length := by omega
  refine ⟨ns[j], ?_⟩
  refine atI_nat ?_
  rw [List.getElem?_map, List.getElem?_eq_getElem hj] <;> rfl
theorem cell_at_ev {M : AS} {s : Nat} {ns : List Int} (h : M.mem s = some (.fro (ns.map D.int))) {k : Int} (hk : 0 ≤ k) : ∃ v, A__law_cell_at [.ref s, .int k] M = some (.int v, M) := by
  unfold A__law_cell_at
  by_cases hl : k < (ns.length : Int)
  · have hd : decide (k < ((ns.map D.int).length : Int)) = true := by rw [List.length_map]; exact decide_eq_true hl
    obtain ⟨v, hv⟩ := atI_ints hk hl
    refine ⟨v, ?_⟩
    walk_at "ev"
  · have hd : decide (k < ((ns.map D.int).length : Int)) = false := by rw [List.length_map]; exact decide_eq_false hl
    refine ⟨0, ?_⟩
    walk_at "ev"
theorem log_le {i : Int} {n : Nat} (h : i.natAbs < 2 ^ n) (h0 : 0 < n) : i.natAbs.log2 < n := PySem.Flt.log2_lt_of h0 h
theorem cmul {i j : Int} (hi : i.natAbs < 2 ^ 100) (hj : j.natAbs < 2 ^ 100) : CMulW i j := wide_mul hi hj (by decide) (by decide) (by decide)
theorem draw_ev {M : AS} {c k b : Int} (hc : c.natAbs < 2 ^ 80) (h1 : 1 ≤ k) (h9 : k ≤ 9) (hb : 0 < b) : ∃ r, A__law_draw [.int c, .int k, .int b] M = some (.int (r % b), M) := by
  have m1 : CMulW c 48271 := cmul (by omega) (by decide)
  have m2 : CMulW k 69621 := cmul (by omega) (by decide)
  unfold A__law_draw
  have hk : k = 1 ∨ k = 2 ∨ k = 3 ∨ k = 4 ∨ k = 5 ∨ k = 6 ∨ k = 7 ∨ k = 8 ∨ k = 9 := by omega
  have p16 : (0 : Int) < 16 := by decide
  have q : ∀ i : Int, 1 ≤ i → i ≤ 9 → ∃ z, 0 < z ∧ atI [D.int 1000003, D.int 1000033, D.int 1000037, D.int 1000039, D.int 1000081, D.int 1000099, D.int 1000117, D.int 1000121, D.int 1000133, D.int 1000151, D.int 1000159, D.int 1000171, D.int 1000183, D.int 1000187, D.int 1000193, D.int 1000199] (i % 16) = some (.int z) := by
    intro i h1 h9
    have hk : i = 1 ∨ i = 2 ∨ i = 3 ∨ i = 4 ∨ i = 5 ∨ i = 6 ∨ i = 7 ∨ i = 8 ∨ i = 9 := by omega
    rcases hk with rfl | rfl | rfl | rfl | rfl | rfl | rfl | rfl | rfl <;> exact ⟨_, by decide, rfl⟩
  obtain ⟨z, hz, e⟩ := q k h1 h9
  clear hk
  walk_at "ev"
  exact ⟨_, rfl⟩
theorem fdiv_dec {i j : Int} (h : 0 < j) (hj : j.natAbs < 2 ^ 4000) : CDivW i j := wide_div h hj (by decide) (by decide)
theorem pow_loop {c k b : D} {M : AS} (n : Nat) : ∀ (j i : Nat) (p : Int) (t : Option D), i + j = n → 0 < p → (p * 1009 ^ j).natAbs < 2 ^ 500 →
    ∃ t', fLoop (.fix (rngD 0 1 n)) (gN 4) (fAsg (fBin oMul (fVar 3) (fC (.int 1009))) (gN 3)) (j + 1) i [some c, some k, some b, some (.int p), t, none, none] M = some (.nx, [some c, some k, some b, some (.int (p * 1009 ^ j)), t', none, none], M)
  | 0, i, p, t, h, h0, hp => by
    refine ⟨t, ?_⟩
    have e : (rngD 0 1 n)[i]? = none := by rw [rngD_get, if_neg (by omega)]
    simp only [fLoop, itAt, e, Int.pow_zero, Int.mul_one]
  | j + 1, i, p, t, h, h0, hp => by
    have e : (rngD 0 1 n)[i]? = some (.int (0 + (i : Nat) * 1)) := by rw [rngD_get, if_pos (by omega)]
    have e2 : p * 1009 ^ (j + 1) = p * 1009 * 1009 ^ j := by rw [Int.pow_succ, Int.mul_assoc, Int.mul_comm (1009 ^ j) 1009]
    have le : p ≤ p * 1009 ^ (j + 1) := by
      have h1 : (0 : Int) < 1009 ^ (j + 1) := Int.pow_pos (by decide)
      calc p = p * 1 := (Int.mul_one p).symm
        _ ≤ p * 1009 ^ (j + 1) := Int.mul_le_mul_of_nonneg_left (by omega) (by omega)
    have m : CMulW p 1009 := wide_mul (a := 500) (b := 10) (by omega) (by decide) (by decide) (by decide) (by decide)
    obtain ⟨t', ih⟩ := pow_loop n j (i + 1) (p * 1009) (some (.int (0 + (i : Nat) * 1))) (by omega) (by omega) (by rw [← e2]; exact hp)
    refine ⟨t', ?_⟩
    rw [e2, ← ih]
    rw [fLoop]
    simp only [itAt, e, gN, fAsg, fBin, oI, fVar, fC, List.set_cons_zero, List.set_cons_succ, List.getElem?_cons_zero, List.getElem?_cons_succ, m, if_true]
theorem number_ev {M : AS} {c k b : Int} (h1 : 1 ≤ k) (h12 : k ≤ 12) (hb : 0 < b) : ∃ r, A__law_number [.int c, .int k, .int b] M = some (.int (r % b), M) := by
  obtain ⟨t', hl⟩ := pow_loop (c := .int c) (k := .int k) (b := .int b) (M := M) k.toNat k.toNat 0 1 none (by omega) (by decide) (by
    have : k.toNat ≤ 12 := by omega
    have hk : k.toNat = 1 ∨ k.toNat = 2 ∨ k.toNat = 3 ∨ k.toNat = 4 ∨ k.toNat = 5 ∨ k.toNat = 6 ∨ k.toNat = 7 ∨ k.toNat = 8 ∨ k.toNat = 9 ∨ k.toNat = 10 ∨ k.toNat = 11 ∨ k.toNat = 12 := by omega
    rcases hk with h | h | h | h | h | h | h | h | h | h | h | h <;> rw [h] <;> decide)
  have e24 : k % 24 = k := Int.emod_eq_of_lt (by omega) (by omega)
  have r1 : -(2 ^ 62) ≤ k ∧ k < 2 ^ 62 := ⟨by omega, by omega⟩
  have rl : (rngD 0 1 k.toNat).length = k.toNat := by unfold rngD; rw [List.length_map, List.length_range]
  have pw : (0 : Int) < 1 * 1009 ^ k.toNat := Int.mul_pos (by decide) (Int.pow_pos (by decide))
  have pb : (1 * (1009 : Int) ^ k.toNat).natAbs < 2 ^ 500 := by
    have hk : k.toNat = 1 ∨ k.toNat = 2 ∨ k.toNat = 3 ∨ k.toNat = 4 ∨ k.toNat = 5 ∨ k.toNat = 6 ∨ k.toNat = 7 ∨ k.toNat = 8 ∨ k.toNat = 9 ∨ k.toNat = 10 ∨ k.toNat = 11 ∨ k.toNat = 12 := by omega
    rcases hk with h | h | h | h | h | h | h | h | h | h | h | h <;> rw [h] <;> decide
  have dv : CDivW (c - 10 ^ (18 : Int).toNat) (1 * 1009 ^ k.toNat) := wide_div pw pb (by decide) (by decide)
  have cp : CPow 10 18 := by decide
  unfold A__law_number
  generalize fAsg (fBin oMul (fVar 3) (fC (.int 1009))) (gN 3) = B at hl ⊢
  have p24 : (0 : Int) < 24 := by decide
  have p9 : (0 : Int) < 9 := by decide
  have p3 : (0 : Int) < 1000003 := by decide
  have p1009 : (0 : Int) < 1009 := by decide
  by_cases hr : 0 < (c - 10 ^ (18 : Int).toNat) / (1 * 1009 ^ k.toNat)
  · have hd : decide (0 < (c - 10 ^ (18 : Int).toNat) / (1 * 1009 ^ k.toNat)) = true := decide_eq_true hr
    walk_at "ev"
    exact ⟨_, rfl⟩
  · have hd : decide (0 < (c - 10 ^ (18 : Int).toNat) / (1 * 1009 ^ k.toNat)) = false := decide_eq_false hr
    have hs0 : 0 ≤ c % 1000003 := Int.emod_nonneg _ (by decide)
    have hs1 : c % 1000003 < 1000003 := Int.emod_lt_of_pos _ (by decide)
    generalize hsm : c % 1000003 = sm at hs0 hs1
    have m1 : CMulW 977 k := cmul (by decide) (by omega)
    have m2 : CMulW 31 k := cmul (by decide) (by omega)
    have m3 : CMulW (sm + 977 * k) (sm + 31 * k + 5) := cmul (by omega) (by omega)
    have k9 : 0 ≤ k % 9 := Int.emod_nonneg _ (by decide)
    have k9' : k % 9 < 9 := Int.emod_lt_of_pos _ (by decide)
    obtain ⟨r, hr2⟩ := draw_ev (M := M) (c := (sm + 977 * k) * (sm + 31 * k + 5)) (k := k % 9 + 1) (b := 999983) (by
      have a1 : (sm + 977 * k).natAbs < 2 ^ 30 := by omega
      have a2 : (sm + 31 * k + 5).natAbs < 2 ^ 30 := by omega
      have := wide_lt a1 a2
      exact Nat.lt_of_lt_of_le this (by decide)) (by omega) (by omega) (by decide)
    walk_at "ev"
    exact ⟨_, rfl⟩
end SM
namespace SM
open PySem L2 AL
local macro_rules | `(tactic| walk_at "ev") => `(tactic| simp only [fnA, fSeq, fNx, fIfS, fTst, fTru, truD, fBin, oAdd, oI0, oI, oLt, oLe, oGt, oGe, oSub, oMul, oDiv, oMod, oPow, fVar, fC, fCB, fCons, fNil, fCall, oLen, oInt, oMax2, oMin2, seqOf, lstOf, mutOf, fRet, fRetN, fAsg, gN, fAnd, fOr, fNot, fAndV, fOrV, fNotV, fIf, fTup, fLst, oIx, fDrop, fPar, fChain, oIsN, D.isNon, fFor, fRng1, fuelOf, gSubD, rlim,
  List.map_cons, List.map_nil, List.length_cons, List.length_nil, List.replicate, List.cons_append, List.nil_append, List.append_nil, List.getElem?_cons_zero, List.getElem?_cons_succ, List.set_cons_zero, List.set_cons_succ, Nat.reduceAdd, Nat.reduceSub, Nat.reduceLeDiff, Nat.reduceLT, if_true, if_false, Bool.not_true, Bool.not_false, Nat.sub_zero, Nat.sub_self, big, Int.reduceLT, Int.reduceLE, Int.reduceEq, Nat.reduceEqDiff, Int.reduceAdd, Int.reduceSub, Int.reduceMul, Int.reduceMod, Int.reduceDiv, and_self, decide_true, decide_false, Bool.false_eq_true, AS.set_same, *])
/-- the draw's list at a: over the script at s -/
def DrA (M : AS) (a s : Nat) (by_ c : Int) : Prop := M.mem a = some (.lst [.ref s, .int by_, .int c])
theorem next_ev {M : AS} {a s : Nat} {ns : List Int} {by_ c b : Int} (ha : DrA M a s by_ c) (hs : M.mem s = some (.fro (ns.map D.int))) (hne : s ≠ a) (h0 : 0 ≤ by_) (hc : 0 ≤ c) (hc2 : c < 2 ^ 60) (hb : 0 < b) :
    ∃ r, A__law_next [.ref a, .int b] M = some (.int (r % b), M.set a (.lst [.ref s, .int by_, .int (c + 1)])) := by
  unfold DrA at ha
  have h12 : (0 : Int) < 12 := by decide
  have q0 : 0 ≤ (c + 1) / 12 := Int.ediv_nonneg (by omega) (by decide)
  have ha1 : (M.set a (.lst [.ref s, .int by_, .int (c + 1)])).mem a = some (.lst [.ref s, .int by_, .int (c + 1)]) := AS.set_same
  have hs1 : (M.set a (.lst [.ref s, .int by_, .int (c + 1)])).mem s = some (.fro (ns.map D.int)) := by rw [AS.set_ne hne]; exact hs
  obtain ⟨v, hv⟩ := cell_at_ev hs1 (k := by_ + (c + 1) / 12) (by omega)
  have k0 : 0 ≤ (c + 1) % 12 := Int.emod_nonneg _ (by decide)
  have k1 : (c + 1) % 12 < 12 := Int.emod_lt_of_pos _ (by decide)
  obtain ⟨r, hr⟩ := number_ev (M := M.set a (.lst [.ref s, .int by_, .int (c + 1)])) (c := v + 31 * ((c + 1) / 12)) (k := (c + 1) % 12 + 1) (b := b) (by omega) (by omega) hb
  have d12 : CDivW (c + 1) 12 := wide_div (b := 10) h12 (by decide) (by decide) (by decide)
  have m31 : CMulW 31 ((c + 1) / 12) := cmul (by decide) (by have : (c + 1) / 12 < 2 ^ 60 := Int.ediv_lt_of_lt_mul (by decide) (by omega); omega)
  have i0 : atI [D.ref s, D.int by_, D.int c] 2 = some (.int c) := rfl
  have i1 : atI [D.ref s, D.int by_, D.int (c + 1)] 2 = some (.int (c + 1)) := rfl
  have i2 : atI [D.ref s, D.int by_, D.int (c + 1)] 1 = some (.int by_) := rfl
  have i3 : atI [D.ref s, D.int by_, D.int (c + 1)] 0 = some (.ref s) := rfl
  have i4 : ixN 3 2 = some 2 := rfl
  unfold A__law_next
  clear hs hs1 q0 k0 k1 hne h0 hc hc2
  refine ⟨r, ?_⟩
  generalize hM : M.set a (.lst [.ref s, .int by_, .int (c + 1)]) = M1 at ha1 hv hr ⊢
  walk_at "ev"
end SM
namespace SM
open PySem L2 AL

inductive Wo where
  | wset | wload | wadd | wsave | wfirst | wshow | wshut | wopen | wtime | wtake | wcount | wspilt | wcall | wjump
def Wo.s : Wo → Str
  | .wset => "set"
  | .wload => "load"
  | .wadd => "add"
  | .wsave => "save"
  | .wfirst => "first"
  | .wshow => "show"
  | .wshut => "shut"
  | .wopen => "open"
  | .wtime => "time"
  | .wtake => "take"
  | .wcount => "count"
  | .wspilt => "spilt"
  | .wcall => "call"
  | .wjump => "jump"
theorem wtab : (Str.ofString "set" == Str.ofString "load") = false ∧ (Str.ofString "set" == Str.ofString "add") = false ∧ (Str.ofString "set" == Str.ofString "save") = false ∧ (Str.ofString "set" == Str.ofString "first") = false ∧ (Str.ofString "set" == Str.ofString "show") = false ∧ (Str.ofString "set" == Str.ofString "shut") = false ∧ (Str.ofString "set" == Str.ofString "open") = false ∧ (Str.ofString "set" == Str.ofString "time") = false ∧ (Str.ofString "set" == Str.ofString "take") = false ∧ (Str.ofString "set" == Str.ofString "count") = false ∧ (Str.ofString "set" == Str.ofString "spilt") = false ∧ (Str.ofString "set" == Str.ofString "call") = false ∧ (Str.ofString "set" == Str.ofString "jump") = false ∧ (Str.ofString "load" == Str.ofString "set") = false ∧ (Str.ofString "load" == Str.ofString "add") = false ∧ (Str.ofString "load" == Str.ofString "save") = false ∧ (Str.ofString "load" == Str.ofString "first") = false ∧ (Str.ofString "load" == Str.ofString "show") = false ∧ (Str.ofString "load" == Str.ofString "shut") = false ∧ (Str.ofString "load" == Str.ofString "open") = false ∧ (Str.ofString "load" == Str.ofString "time") = false ∧ (Str.ofString "load" == Str.ofString "take") = false ∧ (Str.ofString "load" == Str.ofString "count") = false ∧ (Str.ofString "load" == Str.ofString "spilt") = false ∧ (Str.ofString "load" == Str.ofString "call") = false ∧ (Str.ofString "load" == Str.ofString "jump") = false ∧ (Str.ofString "add" == Str.ofString "set") = false ∧ (Str.ofString "add" == Str.ofString "load") = false ∧ (Str.ofString "add" == Str.ofString "save") = false ∧ (Str.ofString "add" == Str.ofString "first") = false ∧ (Str.ofString "add" == Str.ofString "show") = false ∧ (Str.ofString "add" == Str.ofString "shut") = false ∧ (Str.ofString "add" == Str.ofString "open") = false ∧ (Str.ofString "add" == Str.ofString "time") = false ∧ (Str.ofString "add" == Str.ofString "take") = false ∧ (Str.ofString "add" == Str.ofString "count") = false ∧ (Str.ofString "add" == Str.ofString "spilt") = false ∧ (Str.ofString "add" == Str.ofString "call") = false ∧ (Str.ofString "add" == Str.ofString "jump") = false ∧ (Str.ofString "save" == Str.ofString "set") = false ∧ (Str.ofString "save" == Str.ofString "load") = false ∧ (Str.ofString "save" == Str.ofString "add") = false ∧ (Str.ofString "save" == Str.ofString "first") = false ∧ (Str.ofString "save" == Str.ofString "show") = false ∧ (Str.ofString "save" == Str.ofString "shut") = false ∧ (Str.ofString "save" == Str.ofString "open") = false ∧ (Str.ofString "save" == Str.ofString "time") = false ∧ (Str.ofString "save" == Str.ofString "take") = false ∧ (Str.ofString "save" == Str.ofString "count") = false ∧ (Str.ofString "save" == Str.ofString "spilt") = false ∧ (Str.ofString "save" == Str.ofString "call") = false ∧ (Str.ofString "save" == Str.ofString "jump") = false ∧ (Str.ofString "first" == Str.ofString "set") = false ∧ (Str.ofString "first" == Str.ofString "load") = false ∧ (Str.ofString "first" == Str.ofString "add") = false ∧ (Str.ofString "first" == Str.ofString "save") = false ∧ (Str.ofString "first" == Str.ofString "show") = false ∧ (Str.ofString "first" == Str.ofString "shut") = false ∧ (Str.ofString "first" == Str.ofString "open") = false ∧ (Str.ofString "first" == Str.ofString "time") = false ∧ (Str.ofString "first" == Str.ofString "take") = false ∧ (Str.ofString "first" == Str.ofString "count") = false ∧ (Str.ofString "first" == Str.ofString "spilt") = false ∧ (Str.ofString "first" == Str.ofString "call") = false ∧ (Str.ofString "first" == Str.ofString "jump") = false ∧ (Str.ofString "show" == Str.ofString "set") = false ∧ (Str.ofString "show" == Str.ofString "load") = false ∧ (Str.ofString "show" == Str.ofString "add") = false ∧ (Str.ofString "show" == Str.ofString "save") = false ∧ (Str.ofString "show" == Str.ofString "first") = false ∧ (Str.ofString "show" == Str.ofString "shut") = false ∧ (Str.ofString "show" == Str.ofString "open") = false ∧ (Str.ofString "show" == Str.ofString "time") = false ∧ (Str.ofString "show" == Str.ofString "take") = false ∧ (Str.ofString "show" == Str.ofString "count") = false ∧ (Str.ofString "show" == Str.ofString "spilt") = false ∧ (Str.ofString "show" == Str.ofString "call") = false ∧ (Str.ofString "show" == Str.ofString "jump") = false ∧ (Str.ofString "shut" == Str.ofString "set") = false ∧ (Str.ofString "shut" == Str.ofString "load") = false ∧ (Str.ofString "shut" == Str.ofString "add") = false ∧ (Str.ofString "shut" == Str.ofString "save") = false ∧ (Str.ofString "shut" == Str.ofString "first") = false ∧ (Str.ofString "shut" == Str.ofString "show") = false ∧ (Str.ofString "shut" == Str.ofString "open") = false ∧ (Str.ofString "shut" == Str.ofString "time") = false ∧ (Str.ofString "shut" == Str.ofString "take") = false ∧ (Str.ofString "shut" == Str.ofString "count") = false ∧ (Str.ofString "shut" == Str.ofString "spilt") = false ∧ (Str.ofString "shut" == Str.ofString "call") = false ∧ (Str.ofString "shut" == Str.ofString "jump") = false ∧ (Str.ofString "open" == Str.ofString "set") = false ∧ (Str.ofString "open" == Str.ofString "load") = false ∧ (Str.ofString "open" == Str.ofString "add") = false ∧ (Str.ofString "open" == Str.ofString "save") = false ∧ (Str.ofString "open" == Str.ofString "first") = false ∧ (Str.ofString "open" == Str.ofString "show") = false ∧ (Str.ofString "open" == Str.ofString "shut") = false ∧ (Str.ofString "open" == Str.ofString "time") = false ∧ (Str.ofString "open" == Str.ofString "take") = false ∧ (Str.ofString "open" == Str.ofString "count") = false ∧ (Str.ofString "open" == Str.ofString "spilt") = false ∧ (Str.ofString "open" == Str.ofString "call") = false ∧ (Str.ofString "open" == Str.ofString "jump") = false ∧ (Str.ofString "time" == Str.ofString "set") = false ∧ (Str.ofString "time" == Str.ofString "load") = false ∧ (Str.ofString "time" == Str.ofString "add") = false ∧ (Str.ofString "time" == Str.ofString "save") = false ∧ (Str.ofString "time" == Str.ofString "first") = false ∧ (Str.ofString "time" == Str.ofString "show") = false ∧ (Str.ofString "time" == Str.ofString "shut") = false ∧ (Str.ofString "time" == Str.ofString "open") = false ∧ (Str.ofString "time" == Str.ofString "take") = false ∧ (Str.ofString "time" == Str.ofString "count") = false ∧ (Str.ofString "time" == Str.ofString "spilt") = false ∧ (Str.ofString "time" == Str.ofString "call") = false ∧ (Str.ofString "time" == Str.ofString "jump") = false ∧ (Str.ofString "take" == Str.ofString "set") = false ∧ (Str.ofString "take" == Str.ofString "load") = false ∧ (Str.ofString "take" == Str.ofString "add") = false ∧ (Str.ofString "take" == Str.ofString "save") = false ∧ (Str.ofString "take" == Str.ofString "first") = false ∧ (Str.ofString "take" == Str.ofString "show") = false ∧ (Str.ofString "take" == Str.ofString "shut") = false ∧ (Str.ofString "take" == Str.ofString "open") = false ∧ (Str.ofString "take" == Str.ofString "time") = false ∧ (Str.ofString "take" == Str.ofString "count") = false ∧ (Str.ofString "take" == Str.ofString "spilt") = false ∧ (Str.ofString "take" == Str.ofString "call") = false ∧ (Str.ofString "take" == Str.ofString "jump") = false ∧ (Str.ofString "count" == Str.ofString "set") = false ∧ (Str.ofString "count" == Str.ofString "load") = false ∧ (Str.ofString "count" == Str.ofString "add") = false ∧ (Str.ofString "count" == Str.ofString "save") = false ∧ (Str.ofString "count" == Str.ofString "first") = false ∧ (Str.ofString "count" == Str.ofString "show") = false ∧ (Str.ofString "count" == Str.ofString "shut") = false ∧ (Str.ofString "count" == Str.ofString "open") = false ∧ (Str.ofString "count" == Str.ofString "time") = false ∧ (Str.ofString "count" == Str.ofString "take") = false ∧ (Str.ofString "count" == Str.ofString "spilt") = false ∧ (Str.ofString "count" == Str.ofString "call") = false ∧ (Str.ofString "count" == Str.ofString "jump") = false ∧ (Str.ofString "spilt" == Str.ofString "set") = false ∧ (Str.ofString "spilt" == Str.ofString "load") = false ∧ (Str.ofString "spilt" == Str.ofString "add") = false ∧ (Str.ofString "spilt" == Str.ofString "save") = false ∧ (Str.ofString "spilt" == Str.ofString "first") = false ∧ (Str.ofString "spilt" == Str.ofString "show") = false ∧ (Str.ofString "spilt" == Str.ofString "shut") = false ∧ (Str.ofString "spilt" == Str.ofString "open") = false ∧ (Str.ofString "spilt" == Str.ofString "time") = false ∧ (Str.ofString "spilt" == Str.ofString "take") = false ∧ (Str.ofString "spilt" == Str.ofString "count") = false ∧ (Str.ofString "spilt" == Str.ofString "call") = false ∧ (Str.ofString "spilt" == Str.ofString "jump") = false ∧ (Str.ofString "call" == Str.ofString "set") = false ∧ (Str.ofString "call" == Str.ofString "load") = false ∧ (Str.ofString "call" == Str.ofString "add") = false ∧ (Str.ofString "call" == Str.ofString "save") = false ∧ (Str.ofString "call" == Str.ofString "first") = false ∧ (Str.ofString "call" == Str.ofString "show") = false ∧ (Str.ofString "call" == Str.ofString "shut") = false ∧ (Str.ofString "call" == Str.ofString "open") = false ∧ (Str.ofString "call" == Str.ofString "time") = false ∧ (Str.ofString "call" == Str.ofString "take") = false ∧ (Str.ofString "call" == Str.ofString "count") = false ∧ (Str.ofString "call" == Str.ofString "spilt") = false ∧ (Str.ofString "call" == Str.ofString "jump") = false ∧ (Str.ofString "jump" == Str.ofString "set") = false ∧ (Str.ofString "jump" == Str.ofString "load") = false ∧ (Str.ofString "jump" == Str.ofString "add") = false ∧ (Str.ofString "jump" == Str.ofString "save") = false ∧ (Str.ofString "jump" == Str.ofString "first") = false ∧ (Str.ofString "jump" == Str.ofString "show") = false ∧ (Str.ofString "jump" == Str.ofString "shut") = false ∧ (Str.ofString "jump" == Str.ofString "open") = false ∧ (Str.ofString "jump" == Str.ofString "time") = false ∧ (Str.ofString "jump" == Str.ofString "take") = false ∧ (Str.ofString "jump" == Str.ofString "count") = false ∧ (Str.ofString "jump" == Str.ofString "spilt") = false ∧ (Str.ofString "jump" == Str.ofString "call") = false := ⟨rfl, rfl, rfl, rfl, rfl, rfl, rfl, rfl, rfl, rfl, rfl, rfl, rfl, rfl, rfl, rfl, rfl, rfl, rfl, rfl, rfl, rfl, rfl, rfl, rfl, rfl, rfl, rfl, rfl, rfl, rfl, rfl, rfl, rfl, rfl, rfl, rfl, rfl, rfl, rfl, rfl, rfl, rfl, rfl, rfl, rfl, rfl, rfl, rfl, rfl, rfl, rfl, rfl, rfl, rfl, rfl, rfl, rfl, rfl, rfl, rfl, rfl, rfl, rfl, rfl, rfl, rfl, rfl, rfl, rfl, rfl, rfl, rfl, rfl, rfl, rfl, rfl, rfl, rfl, rfl, rfl, rfl, rfl, rfl, rfl, rfl, rfl, rfl, rfl, rfl, rfl, rfl, rfl, rfl, rfl, rfl, rfl, rfl, rfl, rfl, rfl, rfl, rfl, rfl, rfl, rfl, rfl, rfl, rfl, rfl, rfl, rfl, rfl, rfl, rfl, rfl, rfl, rfl, rfl, rfl, rfl, rfl, rfl, rfl, rfl, rfl, rfl, rfl, rfl, rfl, rfl, rfl, rfl, rfl, rfl, rfl, rfl, rfl, rfl, rfl, rfl, rfl, rfl, rfl, rfl, rfl, rfl, rfl, rfl, rfl, rfl, rfl, rfl, rfl, rfl, rfl, rfl, rfl, rfl, rfl, rfl, rfl, rfl, rfl, rfl, rfl, rfl, rfl, rfl, rfl, rfl, rfl, rfl, rfl, rfl, rfl, rfl, rfl, rfl, rfl, rfl, rfl⟩
theorem ws_eq : Wo.s .wset = Str.ofString "set" ∧ Wo.s .wload = Str.ofString "load" ∧ Wo.s .wadd = Str.ofString "add" ∧ Wo.s .wsave = Str.ofString "save" ∧ Wo.s .wfirst = Str.ofString "first" ∧ Wo.s .wshow = Str.ofString "show" ∧ Wo.s .wshut = Str.ofString "shut" ∧ Wo.s .wopen = Str.ofString "open" ∧ Wo.s .wtime = Str.ofString "time" ∧ Wo.s .wtake = Str.ofString "take" ∧ Wo.s .wcount = Str.ofString "count" ∧ Wo.s .wspilt = Str.ofString "spilt" ∧ Wo.s .wcall = Str.ofString "call" ∧ Wo.s .wjump = Str.ofString "jump" := ⟨rfl, rfl, rfl, rfl, rfl, rfl, rfl, rfl, rfl, rfl, rfl, rfl, rfl, rfl⟩

abbrev Ins := Wo × Nat
def insD (i : Ins) : D := .tup [.str i.1.s, .int i.2]
def codeD (c : List Ins) : D := .tup (c.map insD)
structure Sch where
  th : List (List Ins)
  ha : List Ins
structure St where
  th : List (Nat × Int)
  cur : Nat
  hd : Option (Nat × Int)
  ce : List Int
  clk : Int
  ws : List Int
  lost : Bool
  heard : Bool
  pend : Bool
structure Wd where
  r : Bool
  a : Bool
  t : Bool
  w : Option Int
  c : Int
  f : Int
def rowD (p : Nat × Int) : D := .tup [.int p.1, .int p.2]
def hdD : Option (Nat × Int) → D
  | none => .non
  | some p => rowD p
def arD : Option Int → D
  | none => .non
  | some v => .int v
def intsD (xs : List Int) : D := .tup (xs.map D.int)
def St.d (x : St) : D := .tup [.tup (x.th.map rowD), .int x.cur, hdD x.hd, intsD x.ce, .int x.clk, intsD x.ws, .bl x.lost, .bl x.heard, .bl x.pend]
def Wd.d (w : Wd) : D := .tup [.bl w.r, .bl w.a, .bl w.t, arD w.w, .int w.c, .int w.f]
def SchAt (M : AS) (a : Nat) (s : Sch) : Prop := M.mem a = some (.ins 0 [("_threads", .tup (s.th.map codeD)), ("_handler", codeD s.ha), ("_kinds", c_ALL_KINDS)])
def goes (s : Sch) (x : St) (w : Wd) : Bool := (x.pend || w.a) && (x.heard && (x.hd.isNone && !s.ha.isEmpty))
def wsM (x : St) (w : Wd) : List Int := match w.w with
  | none => x.ws
  | some v => if x.ws.length = 2 then x.ws else x.ws ++ [v]
def meetS (s : Sch) (x : St) (w : Wd) : St where
  th := x.th
  cur := if w.r && x.hd.isNone then (x.cur + 1) % x.th.length else x.cur
  hd := if goes s x w then some (0, 0) else x.hd
  ce := x.ce
  clk := if w.t then (x.clk + 1) % 3 else x.clk
  ws := wsM x w
  lost := x.lost || (w.w.isSome && x.ws.length == 2)
  heard := x.heard
  pend := if goes s x w then false else (x.pend || w.a)
def handS (o : Wo) (n : Nat) (h : Int) (x : St) (w : Wd) : Int := match o with
  | .wset => n
  | .wload => x.ce.getD n 0
  | .wadd => (h + x.ce.getD n 0) % 3
  | .wtime => x.clk
  | .wtake => x.ws.headD 0
  | .wcount => x.ws.length
  | .wspilt => if x.lost then 1 else 0
  | .wcall => w.c
  | _ => h
def goalS (o : Wo) (n p : Nat) (h : Int) : Nat := match o with
  | .wjump => if h = 0 then n else p + 1
  | _ => p + 1
def cellS (o : Wo) (n : Nat) (h : Int) (x : St) (w : Wd) : List Int := match o with
  | .wsave => x.ce.set n h
  | .wfirst => x.ce.set n w.f
  | _ => x.ce
def codeS (s : Sch) (x : St) : List Ins := match x.hd with
  | none => s.th.getD x.cur []
  | some _ => s.ha
def rowS (x : St) : Nat × Int := match x.hd with
  | none => x.th.getD x.cur (0, 0)
  | some p => p
def insS (s : Sch) (x : St) : Ins := (codeS s x).getD (rowS x).1 (.wset, 0)
/-- the step of a state that is ready -/
def doneS (s : Sch) (x : St) (w : Wd) : St :=
  let i := insS s x
  let r := rowS x
  let g := goalS i.1 i.2 r.1 r.2
  let h := handS i.1 i.2 r.2 x w
  { th := match x.hd with
      | none => x.th.set x.cur (g % (codeS s x).length, h)
      | some _ => x.th
    cur := x.cur
    hd := match x.hd with
      | none => none
      | some _ => if g < (codeS s x).length then some (g, h) else none
    ce := cellS i.1 i.2 r.2 x w
    clk := x.clk
    ws := match i.1 with
      | .wtake => x.ws.tail
      | _ => x.ws
    lost := match i.1 with
      | .wspilt => false
      | _ => x.lost
    heard := match i.1 with
      | .wopen => true
      | .wshut => false
      | _ => x.heard
    pend := x.pend }
def toldS (s : Sch) (x : St) : D := match (insS s x).1 with
  | .wshow => .int (rowS x).2
  | _ => .non
def stepS (s : Sch) (x : St) (w : Wd) : St := doneS s (meetS s x w) w
def tellS (s : Sch) (x : St) (w : Wd) : D := toldS s (meetS s x w)
/-- a number that the word may have in a code of so many places -/
def okN (k : Nat) : Ins → Prop
  | (.wset, n) => n ≤ 2 | (.wload, n) => n ≤ 2 | (.wadd, n) => n ≤ 2 | (.wsave, n) => n ≤ 2 | (.wfirst, n) => n ≤ 2
  | (.wjump, n) => n < k
  | (_, n) => n = 0
def OkC (lo hi : Nat) (c : List Ins) : Prop := lo ≤ c.length ∧ c.length ≤ hi ∧ ∀ i ∈ c, okN c.length i
structure Sch.Ok (s : Sch) : Prop where
  n1 : 1 ≤ s.th.length
  n3 : s.th.length ≤ 3
  th : ∀ c ∈ s.th, OkC 1 5 c
  ha : OkC 0 3 s.ha
structure St.Ok (s : Sch) (x : St) : Prop where
  len : x.th.length = s.th.length
  cur : x.cur < x.th.length
  pl : ∀ j, j < x.th.length → (x.th.getD j (0, 0)).1 < (s.th.getD j []).length
  hd : ∀ p, x.hd = some p → p.1 < s.ha.length
  ce : x.ce.length = 3
  ws : x.ws.length ≤ 2
  c0 : 0 ≤ x.clk
  c3 : x.clk < 3
theorem meet_ok {s : Sch} {x : St} {w : Wd} (S : s.Ok) (h : x.Ok s) : (meetS s x w).Ok s where
  len := h.len
  cur := by
    show (if w.r && x.hd.isNone then (x.cur + 1) % x.th.length else x.cur) < x.th.length
    have := h.cur
    split
    · exact Nat.mod_lt _ (by omega)
    · exact this
  pl := h.pl
  hd := fun p e => by
    have e : (if goes s x w then some ((0 : Nat), (0 : Int)) else x.hd) = some p := e
    split at e
    · next g =>
      cases e
      unfold goes at g
      simp only [Bool.and_eq_true] at g
      have := g.2.2.2
      cases hs : s.ha with
      | nil => rw [hs] at this; cases this
      | cons a l => exact Nat.zero_lt_succ _
    · exact h.hd p e
  ce := h.ce
  ws := by
    show (wsM x w).length ≤ 2
    unfold wsM
    have := h.ws
    split
    · exact this
    · split
      · exact this
      · rw [List.length_append]
        show x.ws.length + 1 ≤ 2
        omega
  c0 := by
    show 0 ≤ (if w.t then (x.clk + 1) % 3 else x.clk)
    have := h.c0
    split <;> omega
  c3 := by
    show (if w.t then (x.clk + 1) % 3 else x.clk) < 3
    have := h.c3
    split <;> omega
theorem code_len {s : Sch} {x : St} (h : x.Ok s) : (rowS x).1 < (codeS s x).length := by
  unfold rowS codeS
  split
  · next e => exact h.pl _ h.cur
  · next p e => exact h.hd p e
theorem gD_get {α : Type} {l : List α} {i : Nat} {d : α} (h : i < l.length) : l.getD i d = l[i] := by
  rw [List.getD_eq_getElem?_getD, List.getElem?_eq_getElem h]; rfl
theorem getD_mem {α : Type} {l : List α} {i : Nat} {d : α} (h : i < l.length) : l.getD i d ∈ l := by
  rw [gD_get h]; exact List.getElem_mem h
theorem ins_ok {s : Sch} {x : St} (S : s.Ok) (h : x.Ok s) : okN (codeS s x).length (insS s x) := by
  have hm : insS s x ∈ codeS s x := getD_mem (code_len h)
  unfold codeS at hm ⊢
  split at hm
  · next e =>
    have : s.th.getD x.cur [] ∈ s.th := getD_mem (by have := h.len; have := h.cur; omega)
    exact (S.th _ this).2.2 _ hm
  · exact S.ha.2.2 _ hm
theorem goal_le {s : Sch} {x : St} (S : s.Ok) (h : x.Ok s) : goalS (insS s x).1 (insS s x).2 (rowS x).1 (rowS x).2 ≤ (codeS s x).length := by
  have h1 := code_len h
  have h2 := ins_ok S h
  unfold goalS
  generalize insS s x = i at h2
  obtain ⟨o, n⟩ := i
  cases o <;> simp only [] <;> first | omega | skip
  have h2 : n < (codeS s x).length := h2
  split <;> omega
theorem done_ok {s : Sch} {x : St} {w : Wd} (S : s.Ok) (h : x.Ok s) : (doneS s x w).Ok s := by
  have hc := code_len h
  have hg := goal_le S h
  have e0 : ∀ y : Nat × Int, (x.th.set x.cur y).length = x.th.length := fun y => List.length_set
  refine ⟨?_, ?_, ?_, ?_, ?_, ?_, h.c0, h.c3⟩
  · show (match x.hd with | none => _ | some _ => x.th : List (Nat × Int)).length = _
    split
    · rw [e0]; exact h.len
    · exact h.len
  · show x.cur < (match x.hd with | none => _ | some _ => x.th : List (Nat × Int)).length
    split
    · rw [e0]; exact h.cur
    · exact h.cur
  · show ∀ j, j < (match x.hd with | none => _ | some _ => x.th : List (Nat × Int)).length → ((match x.hd with | none => _ | some _ => x.th : List (Nat × Int)).getD j (0, 0)).1 < _
    split
    · next e =>
      intro j hj
      rw [e0] at hj
      have ce : codeS s x = s.th.getD x.cur [] := by unfold codeS; rw [e]
      by_cases hjc : j = x.cur
      · subst hjc
        rw [gD_get (by rw [e0]; exact hj), List.getElem_set_self, ← ce]
        exact Nat.mod_lt _ (by omega)
      · have := h.pl j hj
        rw [gD_get (by rw [e0]; exact hj), List.getElem_set_ne (fun z => hjc z.symm), ← gD_get (d := (0, 0)) hj]
        exact this
    · exact h.pl
  · intro p e2
    unfold doneS at e2
    simp only [] at e2
    split at e2
    · cases e2
    · next q e =>
      have ce : codeS s x = s.ha := by unfold codeS; rw [e]
      split at e2
      · next hl => cases e2; rw [← ce]; exact hl
      · cases e2
  · show (cellS _ _ _ _ _).length = 3
    unfold cellS
    split
    · rw [List.length_set]; exact h.ce
    · rw [List.length_set]; exact h.ce
    · exact h.ce
  · show (match (insS s x).1 with | .wtake => x.ws.tail | _ => x.ws : List Int).length ≤ 2
    have := h.ws
    split
    · rw [List.length_tail]; omega
    · exact this
theorem step_ok {s : Sch} {x : St} {w : Wd} (S : s.Ok) (h : x.Ok s) : (stepS s x w).Ok s := done_ok S (meet_ok S h)
end SM
namespace SM
open PySem L2 AL
theorem shW : SeqAt.shaped (.str (Str.ofString "set")) = true ∧ SeqAt.shaped (.str (Str.ofString "load")) = true ∧ SeqAt.shaped (.str (Str.ofString "add")) = true ∧ SeqAt.shaped (.str (Str.ofString "save")) = true ∧ SeqAt.shaped (.str (Str.ofString "first")) = true ∧ SeqAt.shaped (.str (Str.ofString "show")) = true ∧ SeqAt.shaped (.str (Str.ofString "shut")) = true ∧ SeqAt.shaped (.str (Str.ofString "open")) = true ∧ SeqAt.shaped (.str (Str.ofString "time")) = true ∧ SeqAt.shaped (.str (Str.ofString "take")) = true ∧ SeqAt.shaped (.str (Str.ofString "count")) = true ∧ SeqAt.shaped (.str (Str.ofString "spilt")) = true ∧ SeqAt.shaped (.str (Str.ofString "call")) = true ∧ SeqAt.shaped (.str (Str.ofString "jump")) = true := ⟨by decide +kernel, by decide +kernel, by decide +kernel, by decide +kernel, by decide +kernel, by decide +kernel, by decide +kernel, by decide +kernel, by decide +kernel, by decide +kernel, by decide +kernel, by decide +kernel, by decide +kernel, by decide +kernel⟩
theorem eqS {n : Bool} {a b : Str} {M : AS} (ha : SeqAt.shaped (.str a) = true) (hb : SeqAt.shaped (.str b) = true) : oEqD n (.str a) (.str b) M = some (.bl (if n then !(a == b) else (a == b)), M) := by
  unfold oEqD pyM lstOf D.py
  simp only []
  rw [ha, hb]
  cases n <;> rfl
theorem eqI {n : Bool} {a b : Int} {M : AS} : oEqD n (.int a) (.int b) M = some (.bl (if n then !(a == b) else (a == b)), M) := by
  cases n <;> rfl
def resOf : Option (Flw × DS × AS) → Option (D × AS)
  | some (.rt d, _, M') => some (d, M')
  | some (.nx, _, M') => some (.non, M')
  | _ => none
theorem fnA_res {n : Nat} {b : ASt} {es : List D} {M : AS} : fnA n b es M = resOf (b (es.map some ++ List.replicate (n - es.length) none) M) := rfl
theorem seqR {f g : ASt} {ds ds1 : DS} {M M1 : AS} {r : Option (D × AS)} (h : f ds M = some (.nx, ds1, M1)) (h2 : resOf (g ds1 M1) = r) : resOf (fSeq f g ds M) = r := by
  unfold fSeq; rw [h]; exact h2
theorem retR {e : AE} {ds : DS} {M : AS} {r : Option (D × AS)} (h : e ds M = r) : resOf (fRet e ds M) = r := by
  unfold fRet; rw [h]; cases r with
  | none => rfl
  | some p => cases p; rfl
theorem cut9_3 {a b c d e f g h i : D} : cutD [a, b, c, d, e, f, g, h, i] none (some 3) = [a, b, c] := rfl
theorem cut9_37 {a b c d e f g h i : D} : cutD [a, b, c, d, e, f, g, h, i] (some 3) (some 7) = [d, e, f, g] := rfl
theorem cut9_13 {a b c d e f g h i : D} : cutD [a, b, c, d, e, f, g, h, i] (some 1) (some 3) = [b, c] := rfl
theorem cut6_4 {a b c d e f : D} : cutD [a, b, c, d, e, f] none (some 4) = [a, b, c, d] := rfl
theorem cut3_2 {a b c : D} : cutD [a, b, c] none (some 2) = [a, b] := rfl
theorem lkT {x y z : D} : List.lookup (Str.ofString "_threads") [(Str.ofString "_threads", x), (Str.ofString "_handler", y), (Str.ofString "_kinds", z)] = some x := rfl
theorem lkH {x y z : D} : List.lookup (Str.ofString "_handler") [(Str.ofString "_threads", x), (Str.ofString "_handler", y), (Str.ofString "_kinds", z)] = some y := rfl
theorem lkK {x y z : D} : List.lookup (Str.ofString "_kinds") [(Str.ofString "_threads", x), (Str.ofString "_handler", y), (Str.ofString "_kinds", z)] = some z := rfl
local macro_rules | `(tactic| walk_at "ev") => `(tactic| simp only [fnA, fSeq, fNx, fIfS, fTst, fTru, truD, fBin, oAdd, oI0, oI, oLt, oLe, oGt, oGe, oSub, oMul, oDiv, oMod, oPow, fVar, fC, fCB, fCons, fNil, fCall, oLen, oInt, oMax2, oMin2, seqOf, lstOf, mutOf, fRet, fRetN, fAsg, gN, fAnd, fOr, fNot, fAndV, fOrV, fNotV, fIf, fTup, fLst, oIx, fDrop, fPar, fChain, oIsN, D.isNon, fFor, fRng1, fuelOf, gSubD, rlim,
  fSl, fNoP, fPart, gTupD, gsCons, gsNil, fProp, fFld, oCatT, eqS, eqI, cut9_3, cut9_37, cut9_13, cut6_4, cut3_2, lkT, lkH, lkK, A_Scheme_threads, A_Scheme_handler, A_Scheme_kinds, c_MOST_WORDS, shW, wtab, ws_eq, beq_self_eq_true, List.mem_singleton,
  Bool.or_true, Bool.or_false, Bool.or_self, Bool.true_or, Bool.false_or, Bool.true_and, Bool.and_true, Bool.false_and, Bool.and_false, List.map_append, List.map_cons, List.map_nil, List.length_cons, List.length_nil, List.replicate, List.cons_append, List.nil_append, List.append_nil, List.getElem?_cons_zero, List.getElem?_cons_succ, List.set_cons_zero, List.set_cons_succ, Nat.reduceAdd, Nat.reduceSub, Nat.reduceLeDiff, Nat.reduceLT, if_true, if_false, Bool.not_true, Bool.not_false, Nat.sub_zero, Nat.sub_self, big, Int.reduceLT, Int.reduceLE, Int.reduceEq, Nat.reduceEqDiff, Int.reduceAdd, Int.reduceSub, Int.reduceMul, Int.reduceMod, Int.reduceDiv, and_self, decide_true, decide_false, Bool.false_eq_true, AS.set_same, *])
theorem sch_th {M : AS} {a : Nat} {s : Sch} (h : SchAt M a s) : A_Scheme_threads [.ref a] M = some (.tup (s.th.map codeD), M) := by
  unfold SchAt at h
  walk_at "ev"
theorem sch_ha {M : AS} {a : Nat} {s : Sch} (h : SchAt M a s) : A_Scheme_handler [.ref a] M = some (codeD s.ha, M) := by
  unfold SchAt at h
  walk_at "ev"
theorem sch_ki {M : AS} {a : Nat} {s : Sch} (h : SchAt M a s) : A_Scheme_kinds [.ref a] M = some (c_ALL_KINDS, M) := by
  unfold SchAt at h
  walk_at "ev"
def bE (a : Nat) (ox ow th cur hd ce clk ws lost heard pend : D) (w : Wd) : DS := [some (.ref a), some ox, some ow, some th, some cur, some hd, some ce, some clk, some ws, some lost, some heard, some pend, some (.bl w.r), some (.bl w.a), some (.bl w.t), some (arD w.w)]
theorem len_eq2 {xs : List Int} : ((((xs.map D.int).length : Nat) : Int) == 2) = (xs.length == 2) := by
  rw [List.length_map]
  by_cases h : xs.length = 2
  · rw [h]; rfl
  · rw [beq_eq_false_iff_ne.mpr h, beq_eq_false_iff_ne.mpr (by omega)]
theorem before_ev {M : AS} {a : Nat} {s : Sch} {x : St} {w : Wd} (hS : SchAt M a s) (S : s.Ok) (h : x.Ok s) : A_before_instruction [.ref a, x.d, w.d] M = some ((meetS s x w).d, M) := by
  have hth : A_Scheme_handler [.ref a] M = some (.tup (s.ha.map insD), M) := sch_ha hS
  unfold SchAt at hS
  unfold A_before_instruction
  rw [fnA_res]
  have lw := h.ws
  have hcur := h.cur
  clear h S
  obtain ⟨th, cur, hd, ce, clk, ws, lost, heard, pend⟩ := x
  obtain ⟨wr, wa, wt, ww, wc, wf⟩ := w
  simp only [] at lw hcur
  have p3 : (0 : Int) < 3 := by decide
  have el : ((th.map rowD).length : Int) = (th.length : Int) := by rw [List.length_map]
  have lp : (0 : Int) < (th.length : Int) := by omega
  generalize hox : St.d ⟨th, cur, hd, ce, clk, ws, lost, heard, pend⟩ = ox
  generalize how : Wd.d ⟨wr, wa, wt, ww, wc, wf⟩ = ow
  refine seqR (ds1 := [some (.ref a), some ox, some ow, some (.tup (th.map rowD)), some (.int cur), some (hdD hd), some (intsD ce), some (.int clk), some (intsD ws), some (.bl lost), some (.bl heard), some (.bl pend), none, none, none, none]) (M1 := M) ?_ ?_
  · clear hS hth
    unfold St.d at hox
    walk_at "ev"
    subst hox
    walk_at "ev"
  refine seqR (ds1 := bE a ox ow (.tup (th.map rowD)) (.int cur) (hdD hd) (intsD ce) (.int clk) (intsD ws) (.bl lost) (.bl heard) (.bl pend) ⟨wr, wa, wt, ww, wc, wf⟩) (M1 := M) ?_ ?_
  · clear hS hth hox
    unfold Wd.d at how
    unfold bE
    subst how
    walk_at "ev"
  clear hox how
  refine seqR (ds1 := bE a ox ow (.tup (th.map rowD)) (.int cur) (hdD hd) (intsD ce) (.int (if wt then (clk + 1) % 3 else clk)) (intsD ws) (.bl lost) (.bl heard) (.bl pend) ⟨wr, wa, wt, ww, wc, wf⟩) (M1 := M) ?_ ?_
  · clear hS hth
    unfold bE
    cases wt <;> walk_at "ev"
  refine seqR (ds1 := bE a ox ow (.tup (th.map rowD)) (.int cur) (hdD hd) (intsD ce) (.int (if wt then (clk + 1) % 3 else clk)) (intsD (match ww with | none => ws | some v => if ws.length = 2 then ws else ws ++ [v])) (.bl (lost || (ww.isSome && ws.length == 2))) (.bl heard) (.bl pend) ⟨wr, wa, wt, ww, wc, wf⟩) (M1 := M) ?_ ?_
  · clear hS hth
    unfold bE intsD
    generalize (if wt then (clk + 1) % 3 else clk) = k
    have e2 := @len_eq2 ws
    cases ww with
    | none => simp only [arD, Option.isSome, Bool.false_and, Bool.or_false]; walk_at "ev"
    | some v =>
      simp only [arD, Option.isSome, Bool.true_and]
      by_cases h2 : ws.length = 2
      · have h3 : (ws.length == 2) = true := beq_iff_eq.mpr h2
        walk_at "ev" <;> rfl
      · have h3 : (ws.length == 2) = false := beq_eq_false_iff_ne.mpr h2
        have l3 : (ws.map D.int).length + 1 ≤ 100000 := by rw [List.length_map]; omega
        walk_at "ev" <;> rfl
  generalize hk : (if wt then (clk + 1) % 3 else clk) = k
  generalize hws1 : (match ww with | none => ws | some v => if ws.length = 2 then ws else ws ++ [v]) = ws1
  generalize hlost1 : (lost || (ww.isSome && ws.length == 2)) = lost1
  refine seqR (ds1 := bE a ox ow (.tup (th.map rowD)) (.int cur) (hdD hd) (intsD ce) (.int k) (intsD ws1) (.bl lost1) (.bl heard) (.bl (pend || wa)) ⟨wr, wa, wt, ww, wc, wf⟩) (M1 := M) ?_ ?_
  · clear hS hth hws1 hlost1 hk
    unfold bE
    cases pend <;> cases wa <;> walk_at "ev" <;> rfl
  generalize hp1 : (pend || wa) = pend1
  refine seqR (ds1 := bE a ox ow (.tup (th.map rowD)) (.int ((if wr && hd.isNone then (cur + 1) % th.length else cur : Nat) : Int)) (hdD hd) (intsD ce) (.int k) (intsD ws1) (.bl lost1) (.bl heard) (.bl pend1) ⟨wr, wa, wt, ww, wc, wf⟩) (M1 := M) ?_ ?_
  · clear hS hth hws1 hlost1 hp1 hk
    unfold bE
    cases wr <;> cases hd <;> simp only [Option.isNone, Bool.and_true, Bool.and_false, hdD, rowD] <;> walk_at "ev" <;> rfl
  generalize hcur1 : (if wr && hd.isNone then (cur + 1) % th.length else cur : Nat) = cur1
  refine seqR (ds1 := bE a ox ow (.tup (th.map rowD)) (.int cur1) (hdD (if pend1 && (heard && (hd.isNone && !s.ha.isEmpty)) then some (0, 0) else hd)) (intsD ce) (.int k) (intsD ws1) (.bl lost1) (.bl heard) (.bl (if pend1 && (heard && (hd.isNone && !s.ha.isEmpty)) then false else pend1)) ⟨wr, wa, wt, ww, wc, wf⟩) (M1 := M) ?_ ?_
  · clear hws1 hlost1 hp1 hcur1 hk
    unfold bE
    cases pend1 with
    | false => walk_at "ev" <;> rfl
    | true =>
      cases heard with
      | false => walk_at "ev" <;> rfl
      | true =>
        cases hd with
        | some p => simp only [hdD, rowD]; walk_at "ev" <;> rfl
        | none =>
          cases hha : s.ha with
          | nil =>
            rw [hha] at hth hS
            simp only [hdD]
            walk_at "ev" <;> rfl
          | cons i l =>
            rw [hha] at hth hS
            have hl : decide ((0 : Int) < (((l.map insD).length + 1 : Nat) : Int)) = true := by exact decide_eq_true (by omega)
            simp only [codeD, hdD, List.map_cons] at hth hS ⊢
            walk_at "ev" <;> rfl
  refine retR ?_
  subst hws1 hlost1 hp1 hcur1 hk
  unfold bE St.d meetS goes wsM
  walk_at "ev"
  try rfl
end SM
namespace SM
open PySem L2 AL
local macro_rules | `(tactic| walk_at "ev") => `(tactic| simp only [fnA, fSeq, fNx, fIfS, fTst, fTru, truD, fBin, oAdd, oI0, oI, oLt, oLe, oGt, oGe, oSub, oMul, oDiv, oMod, oPow, fVar, fC, fCB, fCons, fNil, fCall, oLen, oInt, oMax2, oMin2, seqOf, lstOf, mutOf, fRet, fRetN, fAsg, gN, fAnd, fOr, fNot, fAndV, fOrV, fNotV, fIf, fTup, fLst, oIx, fDrop, fPar, fChain, oIsN, D.isNon, fFor, fRng1, fuelOf, gSubD, rlim,
  fSl, fNoP, fPart, gTupD, gsCons, gsNil, fProp, fFld, oCatT, eqS, eqI, cut9_3, cut9_37, cut9_13, cut6_4, cut3_2, lkT, lkH, lkK, A_Scheme_threads, A_Scheme_handler, A_Scheme_kinds, c_MOST_WORDS, shW, wtab, ws_eq, beq_self_eq_true, List.mem_singleton,
  Bool.or_true, Bool.or_false, Bool.or_self, Bool.true_or, Bool.false_or, Bool.true_and, Bool.and_true, Bool.false_and, Bool.and_false, List.map_append, List.map_cons, List.map_nil, List.length_cons, List.length_nil, List.replicate, List.cons_append, List.nil_append, List.append_nil, List.getElem?_cons_zero, List.getElem?_cons_succ, List.set_cons_zero, List.set_cons_succ, Nat.reduceAdd, Nat.reduceSub, Nat.reduceLeDiff, Nat.reduceLT, if_true, if_false, Bool.not_true, Bool.not_false, Nat.sub_zero, Nat.sub_self, big, Int.reduceLT, Int.reduceLE, Int.reduceEq, Nat.reduceEqDiff, Int.reduceAdd, Int.reduceSub, Int.reduceMul, Int.reduceMod, Int.reduceDiv, and_self, decide_true, decide_false, Bool.false_eq_true, AS.set_same, *])

theorem atI_map {α : Type} {l : List α} {f : α → D} {i : Nat} (d : α) (h : i < l.length) : atI (l.map f) (i : Int) = some (f (l.getD i d)) := by
  refine atI_nat ?_
  rw [List.getElem?_map, List.getElem?_eq_getElem h, gD_get h]; rfl
theorem turn_ev {M : AS} {a : Nat} {s : Sch} {x : St} (hS : SchAt M a s) (S : s.Ok) (h : x.Ok s) : A_turn [.ref a, x.d] M = some (.tup [codeD (codeS s x), .int (rowS x).1, .int (rowS x).2], M) := by
  have hth : A_Scheme_handler [.ref a] M = some (codeD s.ha, M) := sch_ha hS
  have htt : A_Scheme_threads [.ref a] M = some (.tup (s.th.map codeD), M) := sch_th hS
  have e1 := atI_map (f := rowD) (0, 0) h.cur
  have e2 := atI_map (f := codeD) (i := x.cur) (l := s.th) [] (by have := h.len; have := h.cur; omega)
  unfold SchAt at hS
  unfold A_turn St.d codeS rowS
  cases hh : x.hd with
  | none =>
    simp only [hdD]
    simp only [rowD] at e1
    walk_at "ev"
  | some p =>
    simp only [hdD, rowD]
    walk_at "ev"
theorem place_ev {M : AS} {o : Wo} {n p : Nat} {h : Int} : A_place_after [insD (o, n), .int p, .int h] M = some (.int (goalS o n p h : Nat), M) := by
  unfold A_place_after insD goalS
  cases o <;> first | (walk_at "ev" <;> done) | skip
  all_goals try (walk_at "ev"; rfl)
  by_cases hz : h = 0
  · subst hz
    walk_at "ev"
  · have hb : (h == 0) = false := beq_eq_false_iff_ne.mpr hz
    walk_at "ev"; rfl
theorem hand_ev {M : AS} {o : Wo} {n k : Nat} {h : Int} {x : St} {w : Wd} (hn : okN k (o, n)) (hce : x.ce.length = 3) : A_hand_after [insD (o, n), .int h, x.d, w.d] M = some (.int (handS o n h x w), M) := by
  have p3 : (0 : Int) < 3 := by decide
  unfold A_hand_after insD handS
  cases o
  case wload =>
    have e := atI_map (f := D.int) (l := x.ce) (i := n) 0 (by have : n ≤ 2 := hn; omega)
    unfold St.d Wd.d intsD
    clear hn
    walk_at "ev"
  case wadd =>
    have e := atI_map (f := D.int) (l := x.ce) (i := n) 0 (by have : n ≤ 2 := hn; omega)
    unfold St.d Wd.d intsD
    clear hn
    walk_at "ev"
  case wtake =>
    clear hn
    unfold St.d Wd.d intsD
    obtain ⟨th, cur, hd, ce, clk, ws, lost, heard, pend⟩ := x
    cases ws with
    | nil => walk_at "ev"; rfl
    | cons v l =>
      have hl : decide ((0 : Int) < (((l.map D.int).length + 1 : Nat) : Int)) = true := decide_eq_true (by omega)
      have e : atI (D.int v :: l.map D.int) 0 = some (.int v) := atI_nat (j := 0) rfl
      walk_at "ev"; rfl
  case wspilt =>
    clear hn
    unfold St.d Wd.d intsD
    obtain ⟨th, cur, hd, ce, clk, ws, lost, heard, pend⟩ := x
    cases lost <;> walk_at "ev" <;> rfl
  case wcall =>
    clear hn
    have e : atI [D.bl w.r, D.bl w.a, D.bl w.t, arD w.w, D.int w.c, D.int w.f] 4 = some (.int w.c) := rfl
    unfold St.d Wd.d intsD
    walk_at "ev"
  case wcount =>
    clear hn
    unfold St.d Wd.d intsD
    walk_at "ev"
    rw [List.length_map]
  all_goals
    clear hn
    unfold St.d Wd.d intsD
    walk_at "ev"
theorem cut_to {xs : List D} {i : Nat} (h : i ≤ xs.length) : cutD xs none (some (i : Int)) = xs.take i := by
  unfold cutD
  rw [HT.sIx_nat, HT.sIx_none, List.drop_zero, Nat.sub_zero, Nat.min_eq_left h]
theorem cut_from {xs : List D} {i : Nat} (h : i ≤ xs.length) : cutD xs (some (i : Int)) none = xs.drop i := by
  unfold cutD
  rw [HT.sIx_nat, HT.sIx_none, Nat.min_eq_left h, List.take_of_length_le (by rw [List.length_drop]; exact Nat.le_refl _)]
theorem replaced_ev {M : AS} {xs : List D} {i : Nat} {y : D} (h : i < xs.length) (hb : xs.length ≤ 1000) : A_replaced [.tup xs, .int i, y] M = some (.tup (xs.set i y), M) := by
  have c1 := cut_to (xs := xs) (i := i) (by omega)
  have c2 : cutD xs (some ((i : Int) + 1)) none = xs.drop (i + 1) := cut_from (i := i + 1) (by omega)
  have l1 : (xs.take i).length + 1 ≤ 100000 := by rw [List.length_take]; omega
  have l2 : (xs.take i ++ [y]).length + (xs.drop (i + 1)).length ≤ 100000 := by rw [List.length_append, List.length_take, List.length_drop]; show _ + 1 + _ ≤ _; omega
  have e : xs.take i ++ [y] ++ xs.drop (i + 1) = xs.set i y := by rw [List.set_eq_take_append_cons_drop, if_pos h, List.append_assoc]; rfl
  unfold A_replaced
  rw [← e]
  walk_at "ev"
theorem cells_ev {M : AS} {o : Wo} {n k : Nat} {h : Int} {x : St} {w : Wd} (hn : okN k (o, n)) (hce : x.ce.length = 3) : A_cells_after [insD (o, n), .int h, intsD x.ce, w.d] M = some (intsD (cellS o n h x w), M) := by
  have hl : (x.ce.map D.int).length ≤ 1000 := by rw [List.length_map]; omega
  unfold A_cells_after insD cellS
  cases o
  case wsave =>
    have e := replaced_ev (M := M) (xs := x.ce.map D.int) (i := n) (y := .int h) (by rw [List.length_map]; have : n ≤ 2 := hn; omega) hl
    clear hn hl
    unfold intsD Wd.d
    walk_at "ev"
    rw [List.map_set]
  case wfirst =>
    have e := replaced_ev (M := M) (xs := x.ce.map D.int) (i := n) (y := .int w.f) (by rw [List.length_map]; have : n ≤ 2 := hn; omega) hl
    have e5 : atI [D.bl w.r, D.bl w.a, D.bl w.t, arD w.w, D.int w.c, D.int w.f] 5 = some (.int w.f) := rfl
    clear hn hl
    unfold intsD Wd.d
    walk_at "ev"
    rw [List.map_set]
  all_goals
    clear hn hl
    unfold intsD Wd.d
    walk_at "ev"
end SM
namespace SM
open PySem L2 AL
theorem at_2 {a b : D} : atI [a, b] 0 = some a ∧ atI [a, b] 1 = some b := ⟨rfl, rfl⟩
theorem ix_2 : ixN 2 0 = some 0 ∧ ixN 2 1 = some 1 := ⟨rfl, rfl⟩
theorem at_3 {a b c : D} : atI [a, b, c] 0 = some a ∧ atI [a, b, c] 1 = some b ∧ atI [a, b, c] 2 = some c := ⟨rfl, rfl, rfl⟩
theorem ix_3 : ixN 3 0 = some 0 ∧ ixN 3 1 = some 1 ∧ ixN 3 2 = some 2 := ⟨rfl, rfl, rfl⟩
theorem at_6 {a b c d e f : D} : atI [a, b, c, d, e, f] 0 = some a ∧ atI [a, b, c, d, e, f] 1 = some b ∧ atI [a, b, c, d, e, f] 2 = some c ∧ atI [a, b, c, d, e, f] 3 = some d ∧ atI [a, b, c, d, e, f] 4 = some e ∧ atI [a, b, c, d, e, f] 5 = some f := ⟨rfl, rfl, rfl, rfl, rfl, rfl⟩
theorem ix_6 : ixN 6 0 = some 0 ∧ ixN 6 1 = some 1 ∧ ixN 6 2 = some 2 ∧ ixN 6 3 = some 3 ∧ ixN 6 4 = some 4 ∧ ixN 6 5 = some 5 := ⟨rfl, rfl, rfl, rfl, rfl, rfl⟩
theorem at_9 {a b c d e f g h i : D} : atI [a, b, c, d, e, f, g, h, i] 0 = some a ∧ atI [a, b, c, d, e, f, g, h, i] 1 = some b ∧ atI [a, b, c, d, e, f, g, h, i] 2 = some c ∧ atI [a, b, c, d, e, f, g, h, i] 3 = some d ∧ atI [a, b, c, d, e, f, g, h, i] 4 = some e ∧ atI [a, b, c, d, e, f, g, h, i] 5 = some f ∧ atI [a, b, c, d, e, f, g, h, i] 6 = some g ∧ atI [a, b, c, d, e, f, g, h, i] 7 = some h ∧ atI [a, b, c, d, e, f, g, h, i] 8 = some i := ⟨rfl, rfl, rfl, rfl, rfl, rfl, rfl, rfl, rfl⟩
theorem ix_9 : ixN 9 0 = some 0 ∧ ixN 9 1 = some 1 ∧ ixN 9 2 = some 2 ∧ ixN 9 3 = some 3 ∧ ixN 9 4 = some 4 ∧ ixN 9 5 = some 5 ∧ ixN 9 6 = some 6 ∧ ixN 9 7 = some 7 ∧ ixN 9 8 = some 8 := ⟨rfl, rfl, rfl, rfl, rfl, rfl, rfl, rfl, rfl⟩
theorem kits : kitB "int" "int" = some true ∧ kitB "int" "bool" = some false ∧ kitB "bool" "bool" = some true ∧ kitB "tuple" "tuple" = some true ∧ kitB "str" "str" = some true := ⟨rfl, rfl, rfl, rfl, rfl⟩
local macro_rules | `(tactic| walk_at "ev") => `(tactic| simp only [fnA, fSeq, fNx, fIfS, fTst, fTru, truD, fBin, oAdd, oI0, oI, oLt, oLe, oGt, oGe, oSub, oMul, oDiv, oMod, oPow, fVar, fC, fCB, fCons, fNil, fCall, oLen, oInt, oMax2, oMin2, seqOf, lstOf, mutOf, fRet, fRetN, fAsg, gN, fAnd, fOr, fNot, fAndV, fOrV, fNotV, fIf, fTup, fLst, oIx, fDrop, fPar, fChain, oIsN, D.isNon, fFor, fRng1, fuelOf, gSubD, rlim,
  oIsi, tyD, kits, bools, oAll, fItSeq, id, List.all_cons, List.all_nil, c_QUIET, fSl, fNoP, fPart, gTupD, gsCons, gsNil, fProp, fFld, oCatT, eqS, eqI, cut9_3, cut9_37, cut9_13, cut6_4, cut3_2, lkT, lkH, lkK, A_Scheme_threads, A_Scheme_handler, A_Scheme_kinds, c_MOST_WORDS, shW, wtab, ws_eq, beq_self_eq_true, at_2, at_3, at_6, at_9, ix_2, ix_3, ix_6, ix_9, List.mem_singleton,
  Bool.or_true, Bool.or_false, Bool.or_self, Bool.true_or, Bool.false_or, Bool.true_and, Bool.and_true, Bool.false_and, Bool.and_false, List.map_append, List.map_cons, List.map_nil, List.length_cons, List.length_nil, List.replicate, List.cons_append, List.nil_append, List.append_nil, List.getElem?_cons_zero, List.getElem?_cons_succ, List.set_cons_zero, List.set_cons_succ, Nat.reduceAdd, Nat.reduceSub, Nat.reduceLeDiff, Nat.reduceLT, if_true, if_false, Bool.not_true, Bool.not_false, Nat.sub_zero, Nat.sub_self, big, Int.reduceLT, Int.reduceLE, Int.reduceEq, Nat.reduceEqDiff, Int.reduceAdd, Int.reduceSub, Int.reduceMul, Int.reduceMod, Int.reduceDiv, and_self, decide_true, decide_false, Bool.false_eq_true, AS.set_same, *])
theorem cut_1 {xs : List D} : cutD xs (some 1) none = xs.drop 1 := by
  cases xs with
  | nil => rfl
  | cons x l => exact cut_from (i := 1) (Nat.succ_le_succ (Nat.zero_le _))
theorem instructed_ev {M : AS} {a : Nat} {s : Sch} {y : St} {w : Wd} (hS : SchAt M a s) (S : s.Ok) (hy : y.Ok s) : A_instructed [.ref a, y.d, w.d] M = some (.tup [(doneS s y w).d, toldS s y], M) := by
  have ht := turn_ev hS S hy
  have e1 : atI ((codeS s y).map insD) ((rowS y).1 : Int) = some (insD (insS s y)) := atI_map (.wset, 0) (code_len hy)
  have hok := ins_ok S hy
  have lc : (((codeS s y).map insD).length : Int) = ((codeS s y).length : Int) := by rw [List.length_map]
  have hl : (0 : Int) < ((codeS s y).length : Int) := by have := code_len hy; omega
  have hpl := @place_ev M (insS s y).1 (insS s y).2 (rowS y).1 (rowS y).2
  have hh := hand_ev (M := M) (o := (insS s y).1) (n := (insS s y).2) (h := (rowS y).2) (x := y) (w := w) hok hy.ce
  have hce := cells_ev (M := M) (o := (insS s y).1) (n := (insS s y).2) (h := (rowS y).2) (x := y) (w := w) hok hy.ce
  have hrep : ∀ z, A_replaced [.tup (y.th.map rowD), .int y.cur, z] M = some (.tup ((y.th.map rowD).set y.cur z), M) := fun z => replaced_ev (by rw [List.length_map]; exact hy.cur) (by rw [List.length_map, hy.len]; have := S.n3; omega)
  have hmd : ∀ g : Nat, ((g : Int) % ((codeS s y).length : Int)) = ((g % (codeS s y).length : Nat) : Int) := fun g => rfl
  have hst : ∀ z : Nat × Int, (y.th.map rowD).set y.cur (.tup [.int z.1, .int z.2]) = (y.th.set y.cur z).map rowD := fun z => by rw [List.map_set]; rfl
  unfold doneS toldS
  simp only []
  clear hok hy S hS
  generalize rowS y = r at *
  generalize codeS s y = c at *
  generalize insS s y = i at *
  obtain ⟨o, n⟩ := i
  obtain ⟨p, q⟩ := r
  simp only [] at *
  generalize goalS o n p q = g at *
  generalize handS o n q y w = v at *
  generalize cellS o n q y w = cs at *
  obtain ⟨th, cur, hd, ce, clk, ws, lost, heard, pend⟩ := y
  have hdr : cutD (ws.map D.int) (some 1) none = ws.tail.map D.int := by rw [cut_1, List.drop_one, List.map_tail]
  simp only [codeD] at ht
  simp only [St.d] at hh ht ⊢
  simp only [insD, intsD] at *
  unfold A_instructed
  have hst2 : ∀ a b, (th.map rowD).set cur (.tup [.int (a : Nat), .int b]) = (th.set cur (a, b)).map rowD := fun a b => hst (a, b)
  clear hst
  cases hd with
  | none =>
    simp only [hdD] at *
    cases o <;> simp only [ws_eq] at * <;> (try walk_at "ev") <;> cases lost <;> cases heard <;> (try walk_at "ev") <;> rfl
  | some p =>
    simp only [hdD, rowD] at *
    by_cases hg : g < c.length
    · have hgd : decide ((g : Int) < (c.length : Int)) = true := decide_eq_true (by omega)
      simp only [if_pos hg]
      cases o <;> simp only [ws_eq] at * <;> (try walk_at "ev") <;> cases lost <;> cases heard <;> (try walk_at "ev") <;> rfl
    · have hgd : decide ((g : Int) < (c.length : Int)) = false := decide_eq_false (by omega)
      simp only [if_neg hg]
      cases o <;> simp only [ws_eq] at * <;> (try walk_at "ev") <;> cases lost <;> cases heard <;> (try walk_at "ev") <;> rfl
theorem stepped_ev {M : AS} {a : Nat} {s : Sch} {x : St} {w : Wd} (hS : SchAt M a s) (S : s.Ok) (h : x.Ok s) : A_stepped [.ref a, x.d, w.d] M = some (.tup [(stepS s x w).d, tellS s x w], M) := by
  have hy := meet_ok (w := w) S h
  have hb := before_ev (w := w) hS S h
  have hi := instructed_ev (w := w) hS S hy
  unfold stepS tellS A_stepped
  generalize meetS s x w = y at hb hi ⊢
  generalize x.d = xd at *
  generalize w.d = wd at *
  generalize y.d = yd at *
  clear h S hS hy
  walk_at "ev"
end SM
namespace SM
open PySem L2 AL
local macro_rules | `(tactic| walk_at "ev") => `(tactic| simp only [fnA, fSeq, fNx, fIfS, fTst, fTru, truD, fBin, oAdd, oI0, oI, oLt, oLe, oGt, oGe, oSub, oMul, oDiv, oMod, oPow, fVar, fC, fCB, fCons, fNil, fCall, oLen, oInt, oMax2, oMin2, seqOf, lstOf, mutOf, fRet, fRetN, fAsg, gN, fAnd, fOr, fNot, fAndV, fOrV, fNotV, fIf, fTup, fLst, oIx, fDrop, fPar, fChain, oIsN, D.isNon, fFor, fRng1, fuelOf, gSubD, rlim,
  oIsi, tyD, kits, bools, oAll, fItSeq, id, List.all_cons, List.all_nil, c_QUIET, fSl, fNoP, fPart, gTupD, gsCons, gsNil, fProp, fFld, oCatT, eqS, eqI, cut9_3, cut9_37, cut9_13, cut6_4, cut3_2, lkT, lkH, lkK, A_Scheme_threads, A_Scheme_handler, A_Scheme_kinds, c_MOST_WORDS, shW, wtab, ws_eq, beq_self_eq_true, at_2, at_3, at_6, at_9, ix_2, ix_3, ix_6, ix_9, List.mem_singleton,
  Bool.or_true, Bool.or_false, Bool.or_self, Bool.true_or, Bool.false_or, Bool.true_and, Bool.and_true, Bool.false_and, Bool.and_false, List.map_append, List.map_cons, List.map_nil, List.length_cons, List.length_nil, List.replicate, List.cons_append, List.nil_append, List.append_nil, List.getElem?_cons_zero, List.getElem?_cons_succ, List.set_cons_zero, List.set_cons_succ, Nat.reduceAdd, Nat.reduceSub, Nat.reduceLeDiff, Nat.reduceLT, if_true, if_false, Bool.not_true, Bool.not_false, Nat.sub_zero, Nat.sub_self, big, Int.reduceLT, Int.reduceLE, Int.reduceEq, Nat.reduceEqDiff, Int.reduceAdd, Int.reduceSub, Int.reduceMul, Int.reduceMod, Int.reduceDiv, and_self, decide_true, decide_false, Bool.false_eq_true, AS.set_same, *])
/-- M' goes on from M: what stood keeps its content, but for S -/
def Fr (S : Nat → Prop) (M M' : AS) : Prop := M.nx ≤ M'.nx ∧ ∀ n, n < M.nx → ¬ S n → M'.mem n = M.mem n
abbrev No : Nat → Prop := fun _ => False
theorem Fr.refl {S : Nat → Prop} {M : AS} : Fr S M M := ⟨Nat.le_refl _, fun _ _ _ => rfl⟩
theorem Fr.trans {S : Nat → Prop} {M M1 M2 : AS} (a : Fr S M M1) (b : Fr S M1 M2) : Fr S M M2 :=
  ⟨Nat.le_trans a.1 b.1, fun n h1 h2 => (b.2 n (Nat.lt_of_lt_of_le h1 a.1) h2).trans (a.2 n h1 h2)⟩
theorem Fr.mono {S T : Nat → Prop} {M M' : AS} (a : Fr S M M') (h : ∀ n, n < M.nx → S n → T n) : Fr T M M' := ⟨a.1, fun n h1 h2 => a.2 n h1 fun z => h2 (h n h1 z)⟩
theorem Fr.no {S : Nat → Prop} {M M' : AS} (a : Fr No M M') : Fr S M M' := a.mono fun _ _ z => z.elim
theorem Fr.new {S : Nat → Prop} {M : AS} {c : Cell} : Fr S M (M.new c) := ⟨Nat.le_succ _, fun n h _ => AS.new_ne (Nat.ne_of_lt h)⟩
theorem Fr.set {S : Nat → Prop} {M : AS} {n : Nat} {c : Cell} (h : n < M.nx → S n) : Fr S M (M.set n c) := ⟨Nat.le_refl _, fun m h1 h2 => AS.set_ne fun e => h2 (e ▸ h (e ▸ h1))⟩
theorem Fr.at {S : Nat → Prop} {M M' : AS} (a : Fr S M M') {n : Nat} {c : Cell} (h : M.mem n = some c) (hn : n < M.nx) (hs : ¬ S n) : M'.mem n = some c := (a.2 n hn hs).trans h
/-- a store where what stands stands below its end -/
def Wf (M : AS) : Prop := ∀ n c, M.mem n = some c → n < M.nx
theorem Wf.new {M : AS} {c : Cell} (h : Wf M) : Wf (M.new c) := fun n d e => by
  have e : (if n = M.nx then some c else M.mem n) = some d := e
  split at e
  · next z => rw [z]; exact Nat.lt_succ_self _
  · exact Nat.lt_succ_of_lt (h n d e)
theorem Wf.set {M : AS} {m : Nat} {c : Cell} (h : Wf M) (hm : m < M.nx) : Wf (M.set m c) := fun n d e => by
  have e : (if n = m then some c else M.mem n) = some d := e
  split at e
  · next z => rw [z]; exact hm
  · exact h n d e
/-- a loop over a fixed list, by what holds ahead of each turn -/
theorem loop_inv {xs : List D} {g : AG} {b : ASt} (P : Nat → DS → AS → Prop)
    (hs : ∀ i (hi : i < xs.length) ds M, P i ds M → ∃ ds1 M1 ds2 M2, g xs[i] ds M = some (ds1, M1) ∧ b ds1 M1 = some (.nx, ds2, M2) ∧ P (i + 1) ds2 M2) :
    ∀ (j i : Nat) (ds : DS) (M : AS), i + j = xs.length → P i ds M → ∃ ds' M', fLoop (.fix xs) g b (j + 1) i ds M = some (.nx, ds', M') ∧ P xs.length ds' M'
  | 0, i, ds, M, h, p => by
    have hi : i = xs.length := by omega
    refine ⟨ds, M, ?_, hi ▸ p⟩
    have e : xs[i]? = none := List.getElem?_eq_none (by omega)
    simp only [fLoop, itAt, e]
  | j + 1, i, ds, M, h, p => by
    have hi : i < xs.length := by omega
    obtain ⟨ds1, M1, ds2, M2, e1, e2, p2⟩ := hs i hi ds M p
    obtain ⟨ds', M', e3, p3⟩ := loop_inv P hs j (i + 1) ds2 M2 (by omega) p2
    refine ⟨ds', M', ?_, p3⟩
    have e : xs[i]? = some xs[i] := List.getElem?_eq_getElem hi
    rw [fLoop]
    simp only [itAt, e, e1, e2, e3]
theorem for_inv {xs : List D} {fi : AI} {g : AG} {b : ASt} {ds : DS} {M M1 : AS} (P : Nat → DS → AS → Prop) (hi : fi ds M = some (.fix xs, M1)) (h0 : P 0 ds M1)
    (hs : ∀ i (hi : i < xs.length) ds M, P i ds M → ∃ ds1 M1 ds2 M2, g xs[i] ds M = some (ds1, M1) ∧ b ds1 M1 = some (.nx, ds2, M2) ∧ P (i + 1) ds2 M2) :
    ∃ ds' M', fFor fi g b ds M = some (.nx, ds', M') ∧ P xs.length ds' M' := by
  obtain ⟨ds', M', e, p⟩ := loop_inv P hs xs.length 0 ds M1 (Nat.zero_add _) h0
  refine ⟨ds', M', ?_, p⟩
  unfold fFor
  rw [hi]
  exact e
/-- the same over a list that stands -/
theorem loopC_inv {n : Nat} {N : Nat} {xs : List D} {I : Itr} {w : Nat → D → D} {g : AG} {b : ASt} (P : Nat → DS → AS → Prop)
    (hI : ∀ i ds M, P i ds M → itAt I M i = some (xs[i]?.map (w i)))
    (hs : ∀ i (hi : i < xs.length) ds M, P i ds M → ∃ ds1 M1 ds2 M2, g (w i xs[i]) ds M = some (ds1, M1) ∧ b ds1 M1 = some (.nx, ds2, M2) ∧ P (i + 1) ds2 M2) :
    ∀ (j i : Nat) (k : Nat) (ds : DS) (M : AS), i + j = xs.length → j < k → P i ds M → ∃ ds' M', fLoop I g b k i ds M = some (.nx, ds', M') ∧ P xs.length ds' M'
  | 0, i, 0, ds, M, h, hk, p => absurd hk (Nat.lt_irrefl _)
  | 0, i, k + 1, ds, M, h, hk, p => by
    have hi : i = xs.length := by omega
    refine ⟨ds, M, ?_, hi ▸ p⟩
    have e : xs[i]? = none := List.getElem?_eq_none (by omega)
    rw [fLoop, hI i ds M p, e]
    rfl
  | j + 1, i, 0, ds, M, h, hk, p => absurd hk (Nat.not_lt_zero _)
  | j + 1, i, k + 1, ds, M, h, hk, p => by
    have hi : i < xs.length := by omega
    obtain ⟨ds1, M1, ds2, M2, e1, e2, p2⟩ := hs i hi ds M p
    obtain ⟨ds', M', e3, p3⟩ := loopC_inv (n := n) (N := N) P hI hs j (i + 1) k ds2 M2 (by omega) (by omega) p2
    refine ⟨ds', M', ?_, p3⟩
    have e : xs[i]? = some xs[i] := List.getElem?_eq_getElem hi
    rw [fLoop, hI i ds M p, e]
    simp only [Option.map, e1, e2, e3]
/-- a comprehension over a fixed list, none left out -/
theorem lc_inv {xs : List D} {g : AG} {f : AE} {n0 : Nat} {ds : DS} (P : Nat → List D → AS → Prop) (hb : xs.length ≤ 1000)
    (hs : ∀ i (hi : i < xs.length) acc M, acc.length = i → M.mem n0 = some (.lst acc) → P i acc M → ∃ ds1 M1 y M2, g xs[i] ds M = some (ds1, M1) ∧ f ds1 M1 = some (y, M2) ∧ M2.mem n0 = some (.lst acc) ∧ P (i + 1) (acc ++ [y]) (M2.set n0 (.lst (acc ++ [y])))) :
    ∀ (j i : Nat) (acc : List D) (M : AS), i + j = xs.length → acc.length = i → M.mem n0 = some (.lst acc) → P i acc M → ∃ acc' M', lcLoop (.fix xs) g tYesA f n0 ds (j + 1) i M = some M' ∧ acc'.length = xs.length ∧ M'.mem n0 = some (.lst acc') ∧ P xs.length acc' M'
  | 0, i, acc, M, h, hl, hm, p => by
    have hi : i = xs.length := by omega
    refine ⟨acc, M, ?_, by omega, hm, hi ▸ p⟩
    have e : xs[i]? = none := List.getElem?_eq_none (by omega)
    simp only [lcLoop, itAt, e]
  | j + 1, i, acc, M, h, hl, hm, p => by
    have hi : i < xs.length := by omega
    obtain ⟨ds1, M1, y, M2, e1, e2, hm2, p2⟩ := hs i hi acc M hl hm p
    obtain ⟨acc', M', e3, l3, m3, p3⟩ := lc_inv P hb hs j (i + 1) (acc ++ [y]) (M2.set n0 (.lst (acc ++ [y]))) (by omega) (by rw [List.length_append]; exact congrArg (· + 1) hl) AS.set_same p2
    refine ⟨acc', M', ?_, l3, m3, p3⟩
    have e : xs[i]? = some xs[i] := List.getElem?_eq_getElem hi
    have lb : acc.length < big := by show _ < 100000; omega
    rw [lcLoop]
    simp only [itAt, e, e1, tYesA, e2, hm2, if_pos lb, e3]
theorem flc_inv {xs : List D} {fi : AI} {g : AG} {f : AE} {vs : List Nat} {ds : DS} {M M1 : AS} (P : Nat → List D → AS → Prop) (hi : fi ds M = some (.fix xs, M1)) (hb : xs.length ≤ 1000) (h0 : P 0 [] (M1.new (.lst [])))
    (hs : ∀ i (hi : i < xs.length) acc M, acc.length = i → M.mem M1.nx = some (.lst acc) → P i acc M → ∃ ds1 M2 y M3, g xs[i] (wipeD ds vs) M = some (ds1, M2) ∧ f ds1 M2 = some (y, M3) ∧ M3.mem M1.nx = some (.lst acc) ∧ P (i + 1) (acc ++ [y]) (M3.set M1.nx (.lst (acc ++ [y])))) :
    ∃ acc M', fLc fi g tYesA f vs ds M = some (.ref M1.nx, M') ∧ acc.length = xs.length ∧ M'.mem M1.nx = some (.lst acc) ∧ P xs.length acc M' := by
  obtain ⟨acc, M', e, l, m, p⟩ := lc_inv (n0 := M1.nx) (ds := wipeD ds vs) P hb hs xs.length 0 [] (M1.new (.lst [])) (Nat.zero_add _) rfl AS.new_same h0
  refine ⟨acc, M', ?_, l, m, p⟩
  unfold fLc
  rw [hi]
  show (match lcLoop (.fix xs) g tYesA f M1.nx (wipeD ds vs) (xs.length + 1) 0 (M1.new (.lst [])) with | some M2 => some (D.ref M1.nx, M2) | none => none) = _
  rw [e]
/-- the items are what f makes of them, the store grows -/
theorem flc_map {xs : List D} {fi : AI} {g : AG} {f : AE} {vs : List Nat} {ds : DS} {M M1 : AS} (fy : D → D) (hi : fi ds M = some (.fix xs, M1)) (hb : xs.length ≤ 1000)
    (hs : ∀ x ∈ xs, ∀ M, Fr No M1 M → ∃ ds1 M2, g x (wipeD ds vs) M = some (ds1, M) ∧ f ds1 M = some (fy x, M2) ∧ Fr No M M2) :
    ∃ M', fLc fi g tYesA f vs ds M = some (.ref M1.nx, M') ∧ M'.mem M1.nx = some (.lst (xs.map fy)) ∧ Fr No M1 M' ∧ M1.nx < M'.nx := by
  obtain ⟨acc, M', e, l, m, p1, p2, p3⟩ := flc_inv (M1 := M1) (ds := ds) (f := f) (vs := vs) (g := g) (fun i acc M => acc = (xs.take i).map fy ∧ Fr No M1 M ∧ M1.nx < M.nx) hi hb ⟨by rw [List.take_zero]; rfl, Fr.new, Nat.lt_succ_self _⟩ (fun i hi acc M hl hm ⟨p1, p2, p3⟩ => by
    obtain ⟨ds1, M2, e1, e2, q⟩ := hs xs[i] (List.getElem_mem hi) M p2
    refine ⟨ds1, M, fy xs[i], M2, e1, e2, q.at hm p3 (fun z => z), ?_, ⟨(p2.trans q).1, fun n h1 h2 => (AS.set_ne (Nat.ne_of_lt h1)).trans ((p2.trans q).2 n h1 h2)⟩, Nat.lt_of_lt_of_le p3 q.1⟩
    · rw [List.take_succ, List.getElem?_eq_getElem hi, List.map_append, p1]; rfl)
  refine ⟨M', e, ?_, p2, p3⟩
  rw [p1, List.take_length] at m
  exact m
end SM
namespace SM
open PySem L2 AL
local macro_rules | `(tactic| walk_at "ev") => `(tactic| simp only [fnA, fSeq, fNx, fIfS, fTst, fTru, truD, fBin, oAdd, oI0, oI, oLt, oLe, oGt, oGe, oSub, oMul, oDiv, oMod, oPow, fVar, fC, fCB, fCons, fNil, fCall, oLen, oInt, oMax2, oMin2, seqOf, lstOf, mutOf, fRet, fRetN, fAsg, gN, fAnd, fOr, fNot, fAndV, fOrV, fNotV, fIf, fTup, fLst, oIx, fDrop, fPar, fChain, oIsN, D.isNon, fFor, fRng1, fuelOf, gSubD, rlim,
  oIsi, tyD, kits, bools, oAll, fItSeq, id, List.all_cons, List.all_nil, c_QUIET, fSl, fNoP, fPart, gTupD, gsCons, gsNil, fProp, fFld, oCatT, eqS, eqI, cut9_3, cut9_37, cut9_13, cut6_4, cut3_2, lkT, lkH, lkK, A_Scheme_threads, A_Scheme_handler, A_Scheme_kinds, c_MOST_WORDS, shW, wtab, ws_eq, beq_self_eq_true, at_2, at_3, at_6, at_9, ix_2, ix_3, ix_6, ix_9, List.mem_singleton,
  Bool.or_true, Bool.or_false, Bool.or_self, Bool.true_or, Bool.false_or, Bool.true_and, Bool.and_true, Bool.false_and, Bool.and_false, List.map_append, List.map_cons, List.map_nil, List.length_cons, List.length_nil, List.replicate, List.cons_append, List.nil_append, List.append_nil, List.getElem?_cons_zero, List.getElem?_cons_succ, List.set_cons_zero, List.set_cons_succ, Nat.reduceAdd, Nat.reduceSub, Nat.reduceLeDiff, Nat.reduceLT, if_true, if_false, Bool.not_true, Bool.not_false, Nat.sub_zero, Nat.sub_self, big, Int.reduceLT, Int.reduceLE, Int.reduceEq, Nat.reduceEqDiff, Int.reduceAdd, Int.reduceSub, Int.reduceMul, Int.reduceMod, Int.reduceDiv, and_self, decide_true, decide_false, Bool.false_eq_true, AS.set_same, *])
/-- a value that reads as data, no deeper than k -/
def Gd (k : Nat) (d : D) : Prop := ∃ p, d.py = some p ∧ p.canLay0 = true ∧ p.depth ≤ k
def Gds (k : Nat) (ds : List D) : Prop := ∃ ps, D.pys ds = some ps ∧ PyData.canLayAll0 ps = true ∧ PyData.depthAll ps ≤ k
theorem gds_of {k : Nat} : ∀ {ds : List D}, (∀ d ∈ ds, Gd k d) → Gds k ds
  | [], _ => ⟨[], rfl, by simp [PyData.canLayAll0], by simp [PyData.depthAll]⟩
  | d :: ds, h => by
    obtain ⟨p, e1, c1, d1⟩ := h d (List.mem_cons_self)
    obtain ⟨ps, e2, c2, d2⟩ := gds_of fun x hx => h x (List.mem_cons_of_mem _ hx)
    refine ⟨p :: ps, ?_, ?_, ?_⟩
    · simp only [D.pys, e1, e2]
    · simp only [PyData.canLayAll0, c1, c2, Bool.and_self]
    · simp only [PyData.depthAll]; omega
theorem gd_tup {k : Nat} {ds : List D} (h : Gds k ds) : Gd (k + 1) (.tup ds) := by
  obtain ⟨ps, e, c, d⟩ := h
  refine ⟨.tuple ps, ?_, ?_, ?_⟩
  · simp only [D.py, e]
  · simp only [PyData.canLay0, c]
  · simp only [PyData.depth]; omega
theorem gds_cons {k : Nat} {d : D} {ds : List D} (h1 : Gd k d) (h2 : Gds k ds) : Gds k (d :: ds) := by
  obtain ⟨p, e1, c1, d1⟩ := h1
  obtain ⟨ps, e2, c2, d2⟩ := h2
  refine ⟨p :: ps, ?_, ?_, ?_⟩
  · simp only [D.pys, e1, e2]
  · simp only [PyData.canLayAll0, c1, c2, Bool.and_self]
  · simp only [PyData.depthAll]; omega
theorem gds_nil {k : Nat} : Gds k [] := gds_of fun _ h => by cases h
theorem Gd.mono {k m : Nat} {d : D} (h : Gd k d) (hk : k ≤ m) : Gd m d := by
  obtain ⟨p, e, c, d⟩ := h
  exact ⟨p, e, c, Nat.le_trans d hk⟩
theorem gd_int {k : Nat} (i : Int) : Gd (k + 1) (.int i) := ⟨.int i, rfl, by simp [PyData.canLay0], by simp [PyData.depth]⟩
theorem gd_bl {k : Nat} (b : Bool) : Gd (k + 1) (.bl b) := ⟨.bool b, rfl, by simp [PyData.canLay0], by simp [PyData.depth]⟩
theorem gd_non {k : Nat} : Gd (k + 1) .non := ⟨.none, rfl, by simp [PyData.canLay0], by simp [PyData.depth]⟩
theorem gd_str {k : Nat} {x : Str} (h : SeqAt.shaped (.str x) = true) : Gd (k + 1) (.str x) := by
  unfold SeqAt.shaped at h
  simp only [Bool.and_eq_true] at h
  exact ⟨.str x, rfl, h.1, by simp [PyData.depth]⟩
theorem Gd.eq {d : D} {M : AS} {n : Bool} (h : Gd 64 d) (hr : lstOf M d = none) : oEqD n d d M = some (.bl (!n), M) := by
  obtain ⟨p, e, c, dd⟩ := h
  have hs : SeqAt.shaped p = true := by unfold SeqAt.shaped; rw [c, decide_eq_true dd]; rfl
  have he : PyData.eqv p p = true := SeqAt.eqv_refl p c
  unfold oEqD pyM
  rw [hr]
  simp only [e, hs, he]
  cases n <;> rfl
theorem Gds.eqL {ds : List D} {x y : D} {M : AS} {n : Bool} (h : Gds 63 ds) (hx : lstOf M x = some ds) (hy : lstOf M y = some ds) : oEqD n x y M = some (.bl (!n), M) := by
  obtain ⟨ps, e, c, dd⟩ := h
  have c2 : PyData.canLay0 (.list ps) = true := by simp only [PyData.canLay0, c]
  have hs : SeqAt.shaped (.list ps) = true := by
    unfold SeqAt.shaped
    rw [c2, decide_eq_true (by simp only [PyData.depth]; omega)]; rfl
  have he : PyData.eqv (.list ps) (.list ps) = true := SeqAt.eqv_refl _ c2
  unfold oEqD pyM
  rw [hx, hy]
  simp only [e, hs, he]
  cases n <;> rfl
theorem gd_word {k : Nat} (o : Wo) : Gd (k + 1) (.str o.s) := gd_str (by cases o <;> simp only [ws_eq, shW])
theorem gd_ins {k : Nat} (i : Ins) : Gd (k + 2) (insD i) := gd_tup (gds_cons (gd_word _) (gds_cons (gd_int _) gds_nil))
theorem gd_code {k : Nat} (c : List Ins) : Gd (k + 3) (codeD c) := gd_tup (gds_of fun d h => by
  obtain ⟨i, _, rfl⟩ := List.mem_map.mp h
  exact gd_ins i)
theorem gd_row {k : Nat} (p : Nat × Int) : Gd (k + 2) (rowD p) := gd_tup (gds_cons (gd_int _) (gds_cons (gd_int _) gds_nil))
theorem gd_hd {k : Nat} (p : Option (Nat × Int)) : Gd (k + 2) (hdD p) := by
  cases p with
  | none => exact gd_non
  | some p => exact gd_row p
theorem gd_ints {k : Nat} (xs : List Int) : Gd (k + 2) (intsD xs) := gd_tup (gds_of fun d h => by
  obtain ⟨i, _, rfl⟩ := List.mem_map.mp h
  exact gd_int i)
theorem gd_st {k : Nat} (x : St) : Gd (k + 4) x.d := gd_tup (gds_cons (gd_tup (gds_of fun d h => by
    obtain ⟨i, _, rfl⟩ := List.mem_map.mp h
    exact gd_row i)) (gds_cons (gd_int _) (gds_cons (gd_hd _) (gds_cons (gd_ints _) (gds_cons (gd_int _) (gds_cons (gd_ints _) (gds_cons (gd_bl _) (gds_cons (gd_bl _) (gds_cons (gd_bl _) gds_nil)))))))))
theorem gd_tell {k : Nat} {s : Sch} {x : St} {w : Wd} : Gd (k + 1) (tellS s x w) := by
  unfold tellS toldS
  split
  · exact gd_int _
  · exact gd_non
theorem gd_kinds {k : Nat} : Gd (k + 2) c_ALL_KINDS := gd_tup (gds_of fun d h => by
  have hh : ∀ x : Str, SeqAt.shaped (.str x) = true → Gd (k + 1) (.str x) := fun x => gd_str
  simp only [List.mem_cons, List.not_mem_nil, or_false] at h
  rcases h with rfl | rfl | rfl | rfl | rfl | rfl <;> exact hh _ (by decide +kernel))
structure Wd.Ok (w : Wd) : Prop where
  w1 : ∀ v, w.w = some v → 1 ≤ v ∧ v ≤ 2
  c0 : 0 ≤ w.c
  c2 : w.c ≤ 2
  f0 : 0 ≤ w.f
  f2 : w.f ≤ 2
theorem is_number_ev {M : AS} {v lo hi : Int} : A_is_number [.int v, .int lo, .int hi] M = some (.bl (decide (lo ≤ v) && decide (v ≤ hi)), M) := by
  unfold A_is_number
  by_cases h1 : lo ≤ v
  · have d1 : decide (lo ≤ v) = true := decide_eq_true h1
    walk_at "ev"
  · have d1 : decide (lo ≤ v) = false := decide_eq_false h1
    walk_at "ev"
theorem has_parts_ev {M : AS} {w : Wd} (h : w.Ok) : ∃ M', A_has_parts [w.d] M = some (.bl true, M') ∧ Fr No M M' := by
  have hc : decide (0 ≤ w.c) = true := decide_eq_true h.c0
  have hc2 : decide (w.c ≤ 2) = true := decide_eq_true h.c2
  have hf : decide (0 ≤ w.f) = true := decide_eq_true h.f0
  have hf2 : decide (w.f ≤ 2) = true := decide_eq_true h.f2
  obtain ⟨M1, e1, m1, f1, _⟩ := flc_map (M := M) (M1 := M) (ds := [some w.d, some (.bl w.r), some (.bl w.a), some (.bl w.t), some (arD w.w), some (.int w.c), some (.int w.f), none]) (vs := [7]) (g := gN 7) (f := fCB (oIsi "bool") (fCons (fVar 7) (fCons (fC (.con (.ty "bool"))) fNil))) (fi := fItSeq (fTup (fCons (fVar 1) (fCons (fVar 2) (fCons (fVar 3) fNil))))) (xs := [.bl w.r, .bl w.a, .bl w.t]) (fun _ => .bl true)
    (by simp only [fItSeq]; clear h; walk_at "ev") (by show 3 ≤ 1000; decide) (fun x hx M2 _ => by
      clear h
      simp only [List.mem_cons, List.not_mem_nil, or_false] at hx
      rcases hx with rfl | rfl | rfl <;> exact ⟨_, _, rfl, rfl, Fr.refl⟩)
  simp only [List.map_cons, List.map_nil] at m1
  refine ⟨M1, ?_, f1⟩
  unfold A_has_parts
  have hq : seqOf M c_QUIET = some [.bl false, .bl false, .bl false, .non, .int 0, .int 0] := rfl
  generalize fLc (fItSeq (fTup (fCons (fVar 1) (fCons (fVar 2) (fCons (fVar 3) fNil))))) (gN 7) tYesA (fCB (oIsi "bool") (fCons (fVar 7) (fCons (fC (.con (.ty "bool"))) fNil))) [7] = L at e1 ⊢
  have n2 : ∀ v, w.w = some v → A_is_number [.int v, .int 1, .int 2] M1 = some (.bl true, M1) := fun v hv => by
    have hh := h.w1 v hv
    rw [is_number_ev, decide_eq_true hh.1, decide_eq_true hh.2]; rfl
  have n3 : A_is_number [.int w.c, .int 0, .int 2] M1 = some (.bl true, M1) := by rw [is_number_ev, hc, hc2]; rfl
  have n4 : A_is_number [.int w.f, .int 0, .int 2] M1 = some (.bl true, M1) := by rw [is_number_ev, hf, hf2]; rfl
  clear h hc hc2 hf hf2 f1
  obtain ⟨wr, wa, wt, ww, wc, wf⟩ := w
  simp only [Wd.d] at *
  cases ww with
  | none =>
    simp only [arD] at *
    walk_at "ev"
    try rfl
  | some v =>
    have n2 := n2 v rfl
    simp only [arD] at *
    walk_at "ev"
    try rfl
end SM
namespace SM
open PySem L2 AL
theorem lkS1 {x y z : D} : List.lookup (Str.ofString "_scheme") [(Str.ofString "_scheme", x), (Str.ofString "_state", y), (Str.ofString "_steps", z)] = some x := rfl
theorem lkS2 {x y z : D} : List.lookup (Str.ofString "_state") [(Str.ofString "_scheme", x), (Str.ofString "_state", y), (Str.ofString "_steps", z)] = some y := rfl
theorem lkS3 {x y z : D} : List.lookup (Str.ofString "_steps") [(Str.ofString "_scheme", x), (Str.ofString "_state", y), (Str.ofString "_steps", z)] = some z := rfl
theorem lkM {x y z : D} : List.lookup (Str.ofString "next") [(Str.ofString "_scheme", x), (Str.ofString "_state", y), (Str.ofString "_steps", z)] = none ∧ List.lookup (Str.ofString "step") [(Str.ofString "_scheme", x), (Str.ofString "_state", y), (Str.ofString "_steps", z)] = none ∧ List.lookup (Str.ofString "copy") [(Str.ofString "_scheme", x), (Str.ofString "_state", y), (Str.ofString "_steps", z)] = none := ⟨rfl, rfl, rfl⟩
theorem puts1 {v : D} : putD (Str.ofString "_scheme") v [] = [(Str.ofString "_scheme", v)] := rfl
theorem puts2 {x v : D} : putD (Str.ofString "_state") v [(Str.ofString "_scheme", x)] = [(Str.ofString "_scheme", x), (Str.ofString "_state", v)] := rfl
theorem puts3 {x y v : D} : putD (Str.ofString "_steps") v [(Str.ofString "_scheme", x), (Str.ofString "_state", y)] = [(Str.ofString "_scheme", x), (Str.ofString "_state", y), (Str.ofString "_steps", v)] := rfl
theorem puts4 {x y z v : D} : putD (Str.ofString "_state") v [(Str.ofString "_scheme", x), (Str.ofString "_state", y), (Str.ofString "_steps", z)] = [(Str.ofString "_scheme", x), (Str.ofString "_state", v), (Str.ofString "_steps", z)] := rfl
theorem puts5 {x y z v : D} : putD (Str.ofString "_steps") v [(Str.ofString "_scheme", x), (Str.ofString "_state", y), (Str.ofString "_steps", z)] = [(Str.ofString "_scheme", x), (Str.ofString "_state", y), (Str.ofString "_steps", v)] := rfl
local macro_rules | `(tactic| walk_at "ev") => `(tactic| simp only [fnA, fSeq, fNx, fIfS, fTst, fTru, truD, fBin, oAdd, oI0, oI, oLt, oLe, oGt, oGe, oSub, oMul, oDiv, oMod, oPow, fVar, fC, fCB, fCons, fNil, fCall, oLen, oInt, oMax2, oMin2, seqOf, lstOf, mutOf, fRet, fRetN, fAsg, gN, fAnd, fOr, fNot, fAndV, fOrV, fNotV, fIf, fTup, fLst, oIx, fDrop, fPar, fChain, oIsN, D.isNon, fFor, fRng1, fuelOf, gSubD, rlim,
  oIsi, oEqO, tyD, fIsC, fMake, fMeth, fFldS, fFldAug, fldPut, gFldD, isCls, lkS1, lkS2, lkS3, puts1, puts2, puts3, puts4, puts5, lkM, A_Machine_steps, A_Machine_state, kits, bools, oAll, fItSeq, id, List.all_cons, List.all_nil, c_QUIET, fSl, fNoP, fPart, gTupD, gsCons, gsNil, fProp, fFld, oCatT, eqS, eqI, cut9_3, cut9_37, cut9_13, cut6_4, cut3_2, lkT, lkH, lkK, A_Scheme_threads, A_Scheme_handler, A_Scheme_kinds, c_MOST_WORDS, shW, wtab, ws_eq, beq_self_eq_true, at_2, at_3, at_6, at_9, ix_2, ix_3, ix_6, ix_9, List.mem_singleton,
  Bool.or_true, Bool.or_false, Bool.or_self, Bool.true_or, Bool.false_or, Bool.true_and, Bool.and_true, Bool.false_and, Bool.and_false, List.map_append, List.map_cons, List.map_nil, List.length_cons, List.length_nil, List.replicate, List.cons_append, List.nil_append, List.append_nil, List.getElem?_cons_zero, List.getElem?_cons_succ, List.set_cons_zero, List.set_cons_succ, Nat.reduceAdd, Nat.reduceSub, Nat.reduceLeDiff, Nat.reduceLT, if_true, if_false, Bool.not_true, Bool.not_false, Nat.sub_zero, Nat.sub_self, big, Int.reduceLT, Int.reduceLE, Int.reduceEq, Nat.reduceEqDiff, Int.reduceAdd, Int.reduceSub, Int.reduceMul, Int.reduceMod, Int.reduceDiv, and_self, decide_true, decide_false, Bool.false_eq_true, AS.set_same, *])
theorem lc_none {I : Itr} {g : AG} {t : AT} {f : AE} {n0 : Nat} {ds : DS} {M : AS} {xs : List D} (hI : ∀ i, itAt I M i = some xs[i]?)
    (h : ∀ x ∈ xs, ∃ ds1, g x ds M = some (ds1, M) ∧ t ds1 M = some (false, M)) : ∀ (j i k : Nat), i + j = xs.length → j < k → lcLoop I g t f n0 ds k i M = some M
  | _, _, 0, _, hk => absurd hk (Nat.not_lt_zero _)
  | 0, i, k + 1, hl, _ => by
    have e : xs[i]? = none := List.getElem?_eq_none (by omega)
    rw [lcLoop, hI i, e]
  | j + 1, i, k + 1, hl, hk => by
    have hi : i < xs.length := by omega
    obtain ⟨ds1, e1, e2⟩ := h xs[i] (List.getElem_mem hi)
    have e : xs[i]? = some xs[i] := List.getElem?_eq_getElem hi
    have ih := lc_none (f := f) (n0 := n0) hI h j (i + 1) k (by omega) (by omega)
    rw [lcLoop, hI i, e]
    simp only [e1, e2, ih]
def SchL (M : AS) (a : Nat) (s : Sch) : Prop := SchAt M a s ∧ a < M.nx
theorem SchL.fr {M M' : AS} {a : Nat} {s : Sch} {S : Nat → Prop} (h : SchL M a s) (f : Fr S M M') (hs : ¬ S a) : SchL M' a s := ⟨f.at h.1 h.2 hs, Nat.lt_of_lt_of_le h.2 f.1⟩
def MachL (M : AS) (m a : Nat) (d : D) (k : Int) : Prop := M.mem m = some (.ins 1 [("_scheme", .ref a), ("_state", d), ("_steps", .int k)]) ∧ m < M.nx
theorem MachL.fr {M M' : AS} {m a : Nat} {d : D} {k : Int} {S : Nat → Prop} (h : MachL M m a d k) (f : Fr S M M') (hs : ¬ S m) : MachL M' m a d k := ⟨f.at h.1 h.2 hs, Nat.lt_of_lt_of_le h.2 f.1⟩
theorem MachL.ne {M : AS} {m a : Nat} {d : D} {k : Int} {s : Sch} (h : MachL M m a d k) (g : SchL M a s) : a ≠ m := fun e => by
  have h1 := h.1; have h2 := g.1
  unfold SchAt at h2
  rw [← e, h2] at h1
  cases h1
theorem check_ev {M : AS} {a : Nat} {s : Sch} (h : SchAt M a s) : A_check_scheme [.ref a] M = some (.non, M) := by
  unfold SchAt at h
  unfold A_check_scheme
  walk_at "ev"
theorem is_world_ev {M : AS} {a : Nat} {s : Sch} {w : Wd} (hS : SchL M a s) (h : w.Ok) : ∃ M', A_is_world [.ref a, w.d] M = some (.bl true, M') ∧ Fr No M M' := by
  have hk := check_ev hS.1
  obtain ⟨M1, e1, f1⟩ := has_parts_ev (M := M) h
  have S1 := hS.fr f1 id
  have hki := sch_ki S1.1
  have S1 := S1.1
  unfold SchAt at S1
  have hz : zip3D [(.str "rings"), (.str "alarms"), (.str "ticks"), (.str "words"), (.str "results"), (.str "firsts")] [.bl w.r, .bl w.a, .bl w.t, arD w.w, .int w.c, .int w.f] [.bl false, .bl false, .bl false, .non, .int 0, .int 0] = [.tup [.str "rings", .bl w.r, .bl false], .tup [.str "alarms", .bl w.a, .bl false], .tup [.str "ticks", .bl w.t, .bl false], .tup [.str "words", arD w.w, .non], .tup [.str "results", .int w.c, .int 0], .tup [.str "firsts", .int w.f, .int 0]] := rfl
  generalize hzs : [D.tup [.str "rings", .bl w.r, .bl false], .tup [.str "alarms", .bl w.a, .bl false], .tup [.str "ticks", .bl w.t, .bl false], .tup [.str "words", arD w.w, .non], .tup [.str "results", .int w.c, .int 0], .tup [.str "firsts", .int w.f, .int 0]] = zs at hz
  refine ⟨(M1.new (.lst zs)).new (.lst []), ?_, f1.trans (Fr.trans .new .new)⟩
  unfold A_is_world
  rw [fnA_res]
  refine seqR (ds1 := [some (.ref a), some w.d, none, none, none, none, none]) (M1 := M) ?_ ?_
  · clear S1 hki e1 hz hzs; walk_at "ev"
  refine seqR (ds1 := [some (.ref a), some w.d, none, none, none, none, none]) (M1 := M1) ?_ ?_
  · clear S1 hki hz hzs; walk_at "ev"
  refine seqR (ds1 := [some (.ref a), some w.d, some c_ALL_KINDS, none, none, none, none]) (M1 := M1) ?_ ?_
  · clear e1 hz hzs; walk_at "ev"
  refine seqR (ds1 := [some (.ref a), some w.d, some c_ALL_KINDS, some (.ref M1.nx), none, none, none]) (M1 := M1.new (.lst zs)) ?_ ?_
  · rw [← hz]; rfl
  refine retR ?_
  have hl : fLc (fItSeq (fVar 3)) (gTupD 3 (gsCons (gN 4) (gsCons (gN 5) (gsCons (gN 6) gsNil)))) (fTst (fBin (oIn true) (fVar 4) (fVar 2))) (fBin (oEqD false) (fVar 5) (fVar 6)) [4, 5, 6] [some (.ref a), some w.d, some c_ALL_KINDS, some (.ref M1.nx), none, none, none] (M1.new (.lst zs)) = some (.ref (M1.nx + 1), (M1.new (.lst zs)).new (.lst [])) := by
    have hm : ((M1.new (.lst zs)).new (.lst [])).mem M1.nx = some (.lst zs) := by
      rw [AS.new_ne (Nat.ne_of_lt (Nat.lt_succ_self _))]; exact AS.new_same
    have hm0 : (M1.new (.lst zs)).mem M1.nx = some (.lst zs) := AS.new_same
    have e := lc_none (M := (M1.new (.lst zs)).new (.lst [])) (I := .cell M1.nx) (xs := zs) (g := gTupD 3 (gsCons (gN 4) (gsCons (gN 5) (gsCons (gN 6) gsNil)))) (t := fTst (fBin (oIn true) (fVar 4) (fVar 2))) (f := fBin (oEqD false) (fVar 5) (fVar 6)) (n0 := M1.nx + 1) (ds := [some (.ref a), some w.d, some c_ALL_KINDS, some (.ref M1.nx), none, none, none]) (fun i => by simp only [itAt, lstOf, hm]) (fun x hx => by
      rw [← hzs] at hx
      simp only [List.mem_cons, List.not_mem_nil, or_false] at hx
      rcases hx with rfl | rfl | rfl | rfl | rfl | rfl <;> exact ⟨_, rfl, rfl⟩) 6 0 100000 (by rw [← hzs]; rfl) (by decide)
    unfold fLc
    have e0 : fItSeq (fVar 3) [some (.ref a), some w.d, some c_ALL_KINDS, some (.ref M1.nx), none, none, none] (M1.new (.lst zs)) = some (.cell M1.nx, M1.new (.lst zs)) := by
      clear e hz hzs hki S1
      walk_at "ev"
    rw [e0]
    show (match lcLoop (.cell M1.nx) _ _ _ (M1.nx + 1) _ 100000 0 ((M1.new (.lst zs)).new (.lst [])) with | some M2 => some (D.ref (M1.nx + 1), M2) | none => none) = _
    exact (congrArg (fun z : Option AS => (match z with | some M2 => some (D.ref (M1.nx + 1), M2) | none => none : Option (D × AS))) e)
  have hm1 : ((M1.new (.lst zs)).new (.lst [])).mem (M1.nx + 1) = some (.lst []) := AS.new_same
  generalize fLc (fItSeq (fVar 3)) (gTupD 3 (gsCons (gN 4) (gsCons (gN 5) (gsCons (gN 6) gsNil)))) (fTst (fBin (oIn true) (fVar 4) (fVar 2))) (fBin (oEqD false) (fVar 5) (fVar 6)) [4, 5, 6] = L at hl ⊢
  clear hki S1 hz hzs e1 hk h
  generalize (M1.new (.lst zs)).new (.lst []) = M3 at *
  walk_at "ev"
def begS (s : Sch) : St := ⟨s.th.map fun _ => (0, 0), 0, none, [0, 0, 0], 0, [], false, true, false⟩
theorem beg_ok {s : Sch} (S : s.Ok) : (begS s).Ok s where
  len := List.length_map _
  cur := by show 0 < (s.th.map _).length; rw [List.length_map]; have := S.n1; omega
  pl := fun j hj => by
    have hj : j < (s.th.map fun _ => ((0 : Nat), (0 : Int))).length := hj
    rw [List.length_map] at hj
    have h1 : ((s.th.map fun _ => ((0 : Nat), (0 : Int))).getD j (0, 0)) = (0, 0) := by
      rw [gD_get (by rw [List.length_map]; exact hj), List.getElem_map]
    show ((s.th.map fun _ => ((0 : Nat), (0 : Int))).getD j (0, 0)).1 < _
    rw [h1]
    have := (S.th _ (getD_mem (d := []) hj)).1
    show 0 < _
    omega
  hd := fun p e => by cases e
  ce := rfl
  ws := Nat.zero_le _
  c0 := Int.le_refl _
  c3 := by show (0 : Int) < 3; decide
theorem beginning_ev {M : AS} {a : Nat} {s : Sch} (hS : SchAt M a s) (S : s.Ok) : A_beginning [.ref a] M = some ((begS s).d, M) := by
  have ht := sch_th hS
  have hS1 := hS
  unfold SchAt at hS1
  have n1 := S.n1
  have n3 := S.n3
  have hr : oRepT (.tup [.tup [.int 0, .int 0]]) (.int ((s.th.map codeD).length : Nat)) M = some (.tup ((s.th.map fun _ => ((0 : Nat), (0 : Int))).map rowD), M) := by
    clear ht hS hS1
    generalize s.th = t at n1 n3 ⊢
    match t, n1, n3 with
    | [_], _, _ => rfl
    | [_, _], _, _ => rfl
    | [_, _, _], _, _ => rfl
  unfold A_beginning begS St.d intsD hdD
  clear n1 n3 hS S
  walk_at "ev"
  rfl
def upD (s : Sch) (x : St) : D :=
  let y := meetS s x ⟨false, false, false, none, 0, 0⟩
  .tup [match y.hd with
    | none => .int y.cur
    | some _ => .non, insD (insS s y)]
theorem gd_up {k : Nat} {s : Sch} {x : St} : Gd (k + 3) (upD s x) := gd_tup (gds_cons (by
  split
  · exact gd_int _
  · exact gd_non) (gds_cons (gd_ins _) gds_nil))
theorem upcoming_ev {M : AS} {a : Nat} {s : Sch} {x : St} (hS : SchAt M a s) (S : s.Ok) (h : x.Ok s) : A_upcoming [.ref a, x.d] M = some (upD s x, M) := by
  have hy := meet_ok (w := ⟨false, false, false, none, 0, 0⟩) S h
  have hb := before_ev (w := ⟨false, false, false, none, 0, 0⟩) hS S h
  have ht := turn_ev hS S hy
  unfold upD
  simp only []
  generalize meetS s x ⟨false, false, false, none, 0, 0⟩ = y at hy hb ht ⊢
  have e1 : atI ((codeS s y).map insD) ((rowS y).1 : Int) = some (insD (insS s y)) := atI_map (.wset, 0) (code_len hy)
  have hb : A_before_instruction [.ref a, x.d, .tup [.bl false, .bl false, .bl false, .non, .int 0, .int 0]] M = some (y.d, M) := hb
  clear hy S h hS
  generalize St.d x = xd at hb ⊢
  generalize rowS y = r at *
  generalize codeS s y = c at *
  generalize insS s y = i at *
  obtain ⟨th, cur, hd, ce, clk, ws, lost, heard, pend⟩ := y
  simp only [codeD] at ht
  simp only [St.d] at hb ht
  unfold A_upcoming
  cases hd with
  | none =>
    simp only [hdD] at *
    walk_at "ev"
  | some p =>
    simp only [hdD, rowD] at *
    walk_at "ev"
theorem init_ev {M : AS} {a : Nat} {s : Sch} (hS : SchL M a s) (S : s.Ok) : ∃ M2, A_Machine_init [.ref M.nx, .ref a] (M.new (.ins 1 [])) = some (.non, M2) ∧ M2.nx = M.nx + 1 ∧ MachL M2 M.nx a (begS s).d 0 ∧ ∀ n, n ≠ M.nx → M2.mem n = M.mem n := by
  have hne : a ≠ M.nx := Nat.ne_of_lt hS.2
  have S1 : SchL (M.new (.ins 1 [])) a s := hS.fr (S := No) .new id
  have S2 : ∀ c, SchAt ((M.new (.ins 1 [])).set M.nx c) a s := fun c => by
    unfold SchAt; rw [AS.set_ne hne]; exact S1.1
  have hk := check_ev S1.1
  have hb := beginning_ev (S2 (.ins 1 [("_scheme", .ref a)])) S
  have m1 : (M.new (.ins 1 [])).mem M.nx = some (.ins 1 []) := AS.new_same
  refine ⟨(((M.new (.ins 1 [])).set M.nx (.ins 1 [("_scheme", .ref a)])).set M.nx (.ins 1 [("_scheme", .ref a), ("_state", (begS s).d)])).set M.nx (.ins 1 [("_scheme", .ref a), ("_state", (begS s).d), ("_steps", .int 0)]), ?_, rfl, ⟨AS.set_same, Nat.lt_succ_self _⟩, fun n h => by rw [AS.set_ne h, AS.set_ne h, AS.set_ne h, AS.new_ne h]⟩
  unfold A_Machine_init
  clear hS S S1 S2 hne
  walk_at "ev"
end SM
namespace SM
open PySem L2 AL
local macro_rules | `(tactic| walk_at "ev") => `(tactic| simp only [fnA, fSeq, fNx, fIfS, fTst, fTru, truD, fBin, oAdd, oI0, oI, oLt, oLe, oGt, oGe, oSub, oMul, oDiv, oMod, oPow, fVar, fC, fCB, fCons, fNil, fCall, oLen, oInt, oMax2, oMin2, seqOf, lstOf, mutOf, fRet, fRetN, fAsg, gN, fAnd, fOr, fNot, fAndV, fOrV, fNotV, fIf, fTup, fLst, oIx, fDrop, fPar, fChain, oIsN, D.isNon, fFor, fRng1, fuelOf, gSubD, rlim,
  oIsi, oEqO, tyD, fIsC, fMake, fMeth, fFldS, fFldAug, fldPut, gFldD, isCls, lkS1, lkS2, lkS3, puts1, puts2, puts3, puts4, puts5, lkM, A_Machine_steps, A_Machine_state, kits, bools, oAll, fItSeq, id, List.all_cons, List.all_nil, c_QUIET, fSl, fNoP, fPart, gTupD, gsCons, gsNil, fProp, fFld, oCatT, eqS, eqI, cut9_3, cut9_37, cut9_13, cut6_4, cut3_2, lkT, lkH, lkK, A_Scheme_threads, A_Scheme_handler, A_Scheme_kinds, c_MOST_WORDS, shW, wtab, ws_eq, beq_self_eq_true, at_2, at_3, at_6, at_9, ix_2, ix_3, ix_6, ix_9, List.mem_singleton,
  Bool.or_true, Bool.or_false, Bool.or_self, Bool.true_or, Bool.false_or, Bool.true_and, Bool.and_true, Bool.false_and, Bool.and_false, List.map_append, List.map_cons, List.map_nil, List.length_cons, List.length_nil, List.replicate, List.cons_append, List.nil_append, List.append_nil, List.getElem?_cons_zero, List.getElem?_cons_succ, List.set_cons_zero, List.set_cons_succ, Nat.reduceAdd, Nat.reduceSub, Nat.reduceLeDiff, Nat.reduceLT, if_true, if_false, Bool.not_true, Bool.not_false, Nat.sub_zero, Nat.sub_self, big, Int.reduceLT, Int.reduceLE, Int.reduceEq, Nat.reduceEqDiff, Int.reduceAdd, Int.reduceSub, Int.reduceMul, Int.reduceMod, Int.reduceDiv, and_self, decide_true, decide_false, Bool.false_eq_true, AS.set_same, *])
theorem mnext_ev {M : AS} {m a : Nat} {s : Sch} {x : St} {k : Int} (hM : MachL M m a x.d k) (hS : SchL M a s) (S : s.Ok) (h : x.Ok s) : A_Machine_next [.ref m] M = some (upD s x, M) := by
  have e := upcoming_ev hS.1 S h
  have hm := hM.1
  unfold A_Machine_next
  clear hM hS S h
  walk_at "ev"
theorem mstep_ev {M : AS} {m a : Nat} {s : Sch} {x : St} {w : Wd} {k : Int} (hM : MachL M m a x.d k) (hS : SchL M a s) (S : s.Ok) (h : x.Ok s) (W : w.Ok) :
    ∃ M', A_Machine_step [.ref m, w.d] M = some (tellS s x w, M') ∧ MachL M' m a (stepS s x w).d (k + 1) ∧ Fr (· = m) M M' := by
  obtain ⟨M1, e1, f1⟩ := is_world_ev hS W
  have S1 := hS.fr f1 id
  have hm := hM.1
  have m1 := (hM.fr f1 id).1
  have l1 := (hM.fr f1 id).2
  have e2 := stepped_ev (w := w) S1.1 S h
  refine ⟨(M1.set m (.ins 1 [("_scheme", .ref a), ("_state", (stepS s x w).d), ("_steps", .int k)])).set m (.ins 1 [("_scheme", .ref a), ("_state", (stepS s x w).d), ("_steps", .int (k + 1))]), ?_, ⟨AS.set_same, l1⟩, f1.no.trans (Fr.trans (.set fun _ => rfl) (.set fun _ => rfl))⟩
  unfold A_Machine_step
  generalize (stepS s x w).d = d at *
  generalize tellS s x w = t at *
  generalize St.d x = xd at *
  generalize Wd.d w = wd at *
  clear hM hS S h W S1 l1 f1
  walk_at "ev"
theorem mat_ev {M : AS} {a : Nat} {s : Sch} {d : D} (hS : SchL M a s) (S : s.Ok) :
    ∃ M', A_machine_at [.ref a, d] M = some (.ref M.nx, M') ∧ MachL M' M.nx a d 0 ∧ M'.nx = M.nx + 1 ∧ ∀ n, n ≠ M.nx → M'.mem n = M.mem n := by
  obtain ⟨M2, e, hn, hm, hf⟩ := init_ev hS S
  have m2 := hm.1
  refine ⟨M2.set M.nx (.ins 1 [("_scheme", .ref a), ("_state", d), ("_steps", .int 0)]), ?_, ⟨AS.set_same, by show M.nx < M2.nx; omega⟩, hn, fun n h => (AS.set_ne h).trans (hf n h)⟩
  unfold A_machine_at
  clear hS S hm hf hn
  walk_at "ev"
theorem copy_ev {M : AS} {m a : Nat} {s : Sch} {d : D} {k : Int} (hM : MachL M m a d k) (hS : SchL M a s) (S : s.Ok) :
    ∃ M', A_Machine_copy [.ref m] M = some (.ref M.nx, M') ∧ MachL M' M.nx a d k ∧ M'.nx = M.nx + 1 ∧ ∀ n, n ≠ M.nx → M'.mem n = M.mem n := by
  obtain ⟨M2, e, hn, hm, hf⟩ := mat_ev (d := d) hS S
  have m2 := hn.1
  have m0 := hM.1
  have m1 := (hf m (Nat.ne_of_lt hM.2)).trans hM.1
  refine ⟨M2.set M.nx (.ins 1 [("_scheme", .ref a), ("_state", d), ("_steps", .int k)]), ?_, ⟨AS.set_same, by show M.nx < M2.nx; omega⟩, hm, fun n h => (AS.set_ne h).trans (hf n h)⟩
  unfold A_Machine_copy
  clear hS S hm hf hn hM
  walk_at "ev"
theorem seq_ev {M : AS} {a : Nat} {s : Sch} (hS : SchAt M a s) : A_Scheme_eq [.ref a, .ref a] M = some (.bl true, M) := by
  have e := Gd.eq (M := M) (n := false) (d := .tup [.tup (s.th.map codeD), codeD s.ha, c_ALL_KINDS]) ((gd_tup (k := 5) (gds_cons (gd_tup (k := 4) (gds_of fun d h => by
      obtain ⟨i, _, rfl⟩ := List.mem_map.mp h
      exact gd_code i)) (gds_cons (gd_code _) (gds_cons gd_kinds gds_nil)))).mono (by decide)) rfl
  unfold SchAt at hS
  unfold A_Scheme_eq
  walk_at "ev"
theorem meq_ev {M : AS} {m n a : Nat} {s : Sch} {x : St} {k j : Int} (hM : MachL M m a x.d k) (hN : MachL M n a x.d j) (hS : SchL M a s) : oEqO 1 A_Machine_eq (.ref m) (.ref n) M = some (.bl true, M) := by
  have e1 := seq_ev hS.1
  have e2 := Gd.eq (M := M) (n := false) (d := x.d) ((gd_st (k := 4) x).mono (by decide)) rfl
  have h1 := hM.1
  have h2 := hN.1
  have h3 := hS.1
  unfold SchAt at h3
  generalize St.d x = xd at *
  clear hM hN hS
  unfold A_Machine_eq
  walk_at "ev"
end SM
namespace SM
open PySem L2 AL
local macro_rules | `(tactic| walk_at "ev") => `(tactic| simp only [fnA, fSeq, fNx, fIfS, fTst, fTru, truD, fBin, oAdd, oI0, oI, oLt, oLe, oGt, oGe, oSub, oMul, oDiv, oMod, oPow, fVar, fC, fCB, fCons, fNil, fCall, oLen, oInt, oMax2, oMin2, seqOf, lstOf, mutOf, fRet, fRetN, fAsg, gN, fAnd, fOr, fNot, fAndV, fOrV, fNotV, fIf, fTup, fLst, oIx, fDrop, fPar, fChain, oIsN, D.isNon, fFor, fRng1, fuelOf, gSubD, rlim,
  oIsi, oEqO, tyD, fIsC, fMake, fMeth, fFldS, fFldAug, fldPut, gFldD, isCls, lkS1, lkS2, lkS3, puts1, puts2, puts3, puts4, puts5, lkM, A_Machine_steps, A_Machine_state, kits, bools, oAll, fItSeq, id, List.all_cons, List.all_nil, c_QUIET, fSl, fNoP, fPart, gTupD, gsCons, gsNil, fProp, fFld, oCatT, eqS, eqI, cut9_3, cut9_37, cut9_13, cut6_4, cut3_2, lkT, lkH, lkK, A_Scheme_threads, A_Scheme_handler, A_Scheme_kinds, c_MOST_WORDS, shW, wtab, ws_eq, beq_self_eq_true, at_2, at_3, at_6, at_9, ix_2, ix_3, ix_6, ix_9, List.mem_singleton,
  Bool.or_true, Bool.or_false, Bool.or_self, Bool.true_or, Bool.false_or, Bool.true_and, Bool.and_true, Bool.false_and, Bool.and_false, List.map_append, List.map_cons, List.map_nil, List.length_cons, List.length_nil, List.replicate, List.cons_append, List.nil_append, List.append_nil, List.getElem?_cons_zero, List.getElem?_cons_succ, List.set_cons_zero, List.set_cons_succ, Nat.reduceAdd, Nat.reduceSub, Nat.reduceLeDiff, Nat.reduceLT, if_true, if_false, Bool.not_true, Bool.not_false, Nat.sub_zero, Nat.sub_self, big, Int.reduceLT, Int.reduceLE, Int.reduceEq, Nat.reduceEqDiff, Int.reduceAdd, Int.reduceSub, Int.reduceMul, Int.reduceMod, Int.reduceDiv, and_self, decide_true, decide_false, Bool.false_eq_true, AS.set_same, *])
structure CA where
  c : Nat
  r : Nat
  e : Nat
  w : Nat
  rs : List Nat
  i : Option Nat
def CA.own (A : CA) (n : Nat) : Prop := n = A.c ∨ n = A.r ∨ n = A.e ∨ n = A.w ∨ n ∈ A.rs ∨ A.i = some n
def innD : Option Nat → D
  | none => .non
  | some i => .ref i
structure CA.Sep (A : CA) : Prop where
  cr : A.c ≠ A.r
  ce : A.c ≠ A.e
  cw : A.c ≠ A.w
  re : A.r ≠ A.e
  rw : A.r ≠ A.w
  ew : A.e ≠ A.w
  rs : ∀ j ∈ A.rs, j ≠ A.c ∧ j ≠ A.r ∧ j ≠ A.e ∧ j ≠ A.w
  nd : A.rs.Nodup
  i : ∀ j, A.i = some j → j ≠ A.c ∧ j ≠ A.r ∧ j ≠ A.e ∧ j ≠ A.w ∧ j ∉ A.rs
def InnAt (M : AS) : Option Nat → Option (Nat × Int) → Prop
  | none, none => True
  | some i, some p => M.mem i = some (.lst [.int p.1, .int p.2])
  | _, _ => False
structure CoreAt (M : AS) (A : CA) (x : St) : Prop where
  core : M.mem A.c = some (.lst [.ref A.r, .int x.cur, innD A.i, .ref A.e, .int x.clk, .ref A.w, .bl x.lost, .bl x.heard, .bl x.pend])
  rows : M.mem A.r = some (.lst (A.rs.map D.ref))
  len : A.rs.length = x.th.length
  row : ∀ j n, A.rs[j]? = some n → M.mem n = some (.lst [.int (x.th.getD j (0, 0)).1, .int (x.th.getD j (0, 0)).2])
  ce : M.mem A.e = some (.lst (x.ce.map D.int))
  ws : M.mem A.w = some (.lst (x.ws.map D.int))
  inn : InnAt M A.i x.hd
  sep : A.Sep
  lt : ∀ n, A.own n → n < M.nx
theorem InnAt.of {M M' : AS} {i : Option Nat} {p : Option (Nat × Int)} (h : InnAt M i p) (e : ∀ j, i = some j → M'.mem j = M.mem j) : InnAt M' i p := by
  cases i <;> cases p <;> first | exact h | skip
  next j p => exact (e j rfl).trans h
theorem CoreAt.fr {M M' : AS} {A : CA} {x : St} {S : Nat → Prop} (h : CoreAt M A x) (f : Fr S M M') (hs : ∀ n, A.own n → ¬ S n) : CoreAt M' A x where
  core := f.at h.core (h.lt _ (.inl rfl)) (hs _ (.inl rfl))
  rows := f.at h.rows (h.lt _ (.inr (.inl rfl))) (hs _ (.inr (.inl rfl)))
  len := h.len
  row := fun j n e => f.at (h.row j n e) (h.lt _ (.inr (.inr (.inr (.inr (.inl (List.mem_of_getElem? e))))))) (hs _ (.inr (.inr (.inr (.inr (.inl (List.mem_of_getElem? e)))))))
  ce := f.at h.ce (h.lt _ (.inr (.inr (.inl rfl)))) (hs _ (.inr (.inr (.inl rfl))))
  ws := f.at h.ws (h.lt _ (.inr (.inr (.inr (.inl rfl))))) (hs _ (.inr (.inr (.inr (.inl rfl)))))
  inn := h.inn.of fun j e => f.2 j (h.lt _ (.inr (.inr (.inr (.inr (.inr e)))))) (hs _ (.inr (.inr (.inr (.inr (.inr e))))))
  sep := h.sep
  lt := fun n o => Nat.lt_of_lt_of_le (h.lt n o) f.1
/-- the core's own fields changed -/
theorem CoreAt.setc {M : AS} {A : CA} {x : St} (h : CoreAt M A x) (cur : Nat) (clk : Int) (lost heard pend : Bool) : CoreAt (M.set A.c (.lst [.ref A.r, .int cur, innD A.i, .ref A.e, .int clk, .ref A.w, .bl lost, .bl heard, .bl pend])) A { x with cur := cur, clk := clk, lost := lost, heard := heard, pend := pend } where
  core := AS.set_same
  rows := (AS.set_ne h.sep.cr.symm).trans h.rows
  len := h.len
  row := fun j n e => (AS.set_ne (h.sep.rs n (List.mem_of_getElem? e)).1).trans (h.row j n e)
  ce := (AS.set_ne h.sep.ce.symm).trans h.ce
  ws := (AS.set_ne h.sep.cw.symm).trans h.ws
  inn := h.inn.of fun j e => AS.set_ne (h.sep.i j e).1
  sep := h.sep
  lt := h.lt
theorem CoreAt.setw {M : AS} {A : CA} {x : St} (h : CoreAt M A x) (ws : List Int) : CoreAt (M.set A.w (.lst (ws.map D.int))) A { x with ws := ws } where
  core := (AS.set_ne h.sep.cw).trans h.core
  rows := (AS.set_ne h.sep.rw).trans h.rows
  len := h.len
  row := fun j n e => (AS.set_ne (h.sep.rs n (List.mem_of_getElem? e)).2.2.2).trans (h.row j n e)
  ce := (AS.set_ne h.sep.ew).trans h.ce
  ws := AS.set_same
  inn := h.inn.of fun j e => AS.set_ne (h.sep.i j e).2.2.2.1
  sep := h.sep
  lt := h.lt
theorem CoreAt.sete {M : AS} {A : CA} {x : St} (h : CoreAt M A x) (ce : List Int) : CoreAt (M.set A.e (.lst (ce.map D.int))) A { x with ce := ce } where
  core := (AS.set_ne h.sep.ce).trans h.core
  rows := (AS.set_ne h.sep.re).trans h.rows
  len := h.len
  row := fun j n e => (AS.set_ne (h.sep.rs n (List.mem_of_getElem? e)).2.2.1).trans (h.row j n e)
  ce := AS.set_same
  ws := (AS.set_ne h.sep.ew.symm).trans h.ws
  inn := h.inn.of fun j e => AS.set_ne (h.sep.i j e).2.2.1
  sep := h.sep
  lt := h.lt
theorem CoreAt.setr {M : AS} {A : CA} {x : St} (h : CoreAt M A x) {k n : Nat} (hk : A.rs[k]? = some n) (p : Nat × Int) : CoreAt (M.set n (.lst [.int p.1, .int p.2])) A { x with th := x.th.set k p } where
  core := (AS.set_ne (h.sep.rs n (List.mem_of_getElem? hk)).1.symm).trans h.core
  rows := (AS.set_ne (h.sep.rs n (List.mem_of_getElem? hk)).2.1.symm).trans h.rows
  len := h.len.trans List.length_set.symm
  row := fun j m e => by
    have hkl : k < A.rs.length := (List.getElem?_eq_some_iff.mp hk).1
    have hjl : j < A.rs.length := (List.getElem?_eq_some_iff.mp e).1
    have hl := h.len
    show (M.set n _).mem m = some (.lst [.int (((x.th.set k p).getD j (0, 0)).1 : Nat), .int ((x.th.set k p).getD j (0, 0)).2])
    by_cases hj : j = k
    · subst hj
      obtain rfl : n = m := by rw [hk] at e; cases e; rfl
      rw [gD_get (by rw [List.length_set]; omega), List.getElem_set_self]
      exact AS.set_same
    · have hne : m ≠ n := fun z => hj ((List.getElem?_inj hjl h.sep.nd).mp (by rw [e, hk, z]))
      rw [gD_get (by rw [List.length_set]; omega), List.getElem_set_ne (fun z => hj z.symm), ← gD_get (d := (0, 0)) (by omega)]
      exact (AS.set_ne hne).trans (h.row j m e)
  ce := (AS.set_ne (h.sep.rs n (List.mem_of_getElem? hk)).2.2.1.symm).trans h.ce
  ws := (AS.set_ne (h.sep.rs n (List.mem_of_getElem? hk)).2.2.2.symm).trans h.ws
  inn := h.inn.of fun j e => AS.set_ne fun z => (h.sep.i j e).2.2.2.2 (z ▸ List.mem_of_getElem? hk)
  sep := h.sep
  lt := h.lt
theorem CoreAt.seti {M : AS} {A : CA} {x : St} (h : CoreAt M A x) {n : Nat} (hk : A.i = some n) (p : Nat × Int) : CoreAt (M.set n (.lst [.int p.1, .int p.2])) A { x with hd := some p } where
  core := (AS.set_ne (h.sep.i n hk).1.symm).trans h.core
  rows := (AS.set_ne (h.sep.i n hk).2.1.symm).trans h.rows
  len := h.len
  row := fun j m e => (AS.set_ne fun z => (h.sep.i n hk).2.2.2.2 (by have q := List.mem_of_getElem? e; rw [z] at q; exact q)).trans (h.row j m e)
  ce := (AS.set_ne (h.sep.i n hk).2.2.1.symm).trans h.ce
  ws := (AS.set_ne (h.sep.i n hk).2.2.2.1.symm).trans h.ws
  inn := by rw [hk]; exact AS.set_same
  sep := h.sep
  lt := h.lt
/-- the handler ends -/
theorem CoreAt.endi {M : AS} {A : CA} {x : St} (h : CoreAt M A x) : CoreAt (M.set A.c (.lst [.ref A.r, .int x.cur, .non, .ref A.e, .int x.clk, .ref A.w, .bl x.lost, .bl x.heard, .bl x.pend])) { A with i := none } { x with hd := none } where
  core := AS.set_same
  rows := (AS.set_ne h.sep.cr.symm).trans h.rows
  len := h.len
  row := fun j n e => (AS.set_ne (h.sep.rs n (List.mem_of_getElem? e)).1).trans (h.row j n e)
  ce := (AS.set_ne h.sep.ce.symm).trans h.ce
  ws := (AS.set_ne h.sep.cw.symm).trans h.ws
  inn := trivial
  sep := ⟨h.sep.cr, h.sep.ce, h.sep.cw, h.sep.re, h.sep.rw, h.sep.ew, h.sep.rs, h.sep.nd, fun j e => by cases e⟩
  lt := fun n o => h.lt n (by
    rcases o with o | o | o | o | o | o
    · exact .inl o
    · exact .inr (.inl o)
    · exact .inr (.inr (.inl o))
    · exact .inr (.inr (.inr (.inl o)))
    · exact .inr (.inr (.inr (.inr (.inl o))))
    · cases o)
/-- the handler begins, its place in a new list -/
theorem CoreAt.newi {M : AS} {A : CA} {x : St} (h : CoreAt M A x) (p : Nat × Int) (pend : Bool) : CoreAt ((M.new (.lst [.int p.1, .int p.2])).set A.c (.lst [.ref A.r, .int x.cur, .ref M.nx, .ref A.e, .int x.clk, .ref A.w, .bl x.lost, .bl x.heard, .bl pend])) { A with i := some M.nx } { x with hd := some p, pend := pend } := by
  have hl : ∀ n, A.own n → n ≠ M.nx := fun n o => Nat.ne_of_lt (h.lt n o)
  exact {
    core := AS.set_same
    rows := (AS.set_ne h.sep.cr.symm).trans ((AS.new_ne (hl _ (.inr (.inl rfl)))).trans h.rows)
    len := h.len
    row := fun j n e => (AS.set_ne (h.sep.rs n (List.mem_of_getElem? e)).1).trans ((AS.new_ne (hl _ (.inr (.inr (.inr (.inr (.inl (List.mem_of_getElem? e)))))))).trans (h.row j n e))
    ce := (AS.set_ne h.sep.ce.symm).trans ((AS.new_ne (hl _ (.inr (.inr (.inl rfl))))).trans h.ce)
    ws := (AS.set_ne h.sep.cw.symm).trans ((AS.new_ne (hl _ (.inr (.inr (.inr (.inl rfl)))))).trans h.ws)
    inn := (AS.set_ne (hl _ (.inl rfl)).symm).trans AS.new_same
    sep := ⟨h.sep.cr, h.sep.ce, h.sep.cw, h.sep.re, h.sep.rw, h.sep.ew, h.sep.rs, h.sep.nd, fun j e => by
      cases e
      exact ⟨(hl _ (.inl rfl)).symm, (hl _ (.inr (.inl rfl))).symm, (hl _ (.inr (.inr (.inl rfl)))).symm, (hl _ (.inr (.inr (.inr (.inl rfl))))).symm, fun z => hl _ (.inr (.inr (.inr (.inr (.inl z))))) rfl⟩⟩
    lt := fun n o => by
      rcases o with o | o | o | o | o | o
      · exact Nat.lt_succ_of_lt (h.lt n (.inl o))
      · exact Nat.lt_succ_of_lt (h.lt n (.inr (.inl o)))
      · exact Nat.lt_succ_of_lt (h.lt n (.inr (.inr (.inl o))))
      · exact Nat.lt_succ_of_lt (h.lt n (.inr (.inr (.inr (.inl o)))))
      · exact Nat.lt_succ_of_lt (h.lt n (.inr (.inr (.inr (.inr (.inl o))))))
      · cases o; exact Nat.lt_succ_self _ }
end SM
namespace SM
open PySem L2 AL
theorem AS.set_set {M : AS} {n : Nat} {c d : Cell} : (M.set n c).set n d = M.set n d := by
  unfold AS.set
  congr 1
  funext m
  simp only []
  split <;> rfl
local macro_rules | `(tactic| walk_at "ev") => `(tactic| simp only [fnA, fSeq, fNx, fIfS, fTst, fTru, truD, fBin, oAdd, oI0, oI, oLt, oLe, oGt, oGe, oSub, oMul, oDiv, oMod, oPow, fVar, fC, fCB, fCons, fNil, fCall, oLen, oInt, oMax2, oMin2, seqOf, lstOf, mutOf, fRet, fRetN, fAsg, gN, fAnd, fOr, fNot, fAndV, fOrV, fNotV, fIf, fTup, fLst, oIx, fDrop, fPar, fChain, oIsN, D.isNon, fFor, fRng1, fuelOf, gSubD, rlim,
  oIsi, oCatL, fApp, fPopAt, oTuple, oList, oEqO, tyD, fIsC, fMake, fMeth, fFldS, fFldAug, fldPut, gFldD, isCls, lkS1, lkS2, lkS3, puts1, puts2, puts3, puts4, puts5, lkM, A_Machine_steps, A_Machine_state, kits, bools, oAll, fItSeq, id, List.all_cons, List.all_nil, c_QUIET, fSl, fNoP, fPart, gTupD, gsCons, gsNil, fProp, fFld, oCatT, eqS, eqI, cut9_3, cut9_37, cut9_13, cut6_4, cut3_2, lkT, lkH, lkK, A_Scheme_threads, A_Scheme_handler, A_Scheme_kinds, c_MOST_WORDS, shW, wtab, ws_eq, beq_self_eq_true, at_2, at_3, at_6, at_9, ix_2, ix_3, ix_6, ix_9, List.mem_singleton,
  Bool.or_true, Bool.or_false, Bool.or_self, Bool.true_or, Bool.false_or, Bool.true_and, Bool.and_true, Bool.false_and, Bool.and_false, List.map_append, List.map_cons, List.map_nil, List.length_cons, List.length_nil, List.replicate, List.cons_append, List.nil_append, List.append_nil, List.getElem?_cons_zero, List.getElem?_cons_succ, List.set_cons_zero, List.set_cons_succ, Nat.reduceAdd, Nat.reduceSub, Nat.reduceLeDiff, Nat.reduceLT, if_true, if_false, Bool.not_true, Bool.not_false, Nat.sub_zero, Nat.sub_self, big, Int.reduceLT, Int.reduceLE, Int.reduceEq, Nat.reduceEqDiff, Int.reduceAdd, Int.reduceSub, Int.reduceMul, Int.reduceMod, Int.reduceDiv, and_self, decide_true, decide_false, Bool.false_eq_true, AS.set_same, AS.set_set, *])
def Res (o : Option (D × AS)) (P : D → AS → Prop) : Prop := ∃ d M', o = some (d, M') ∧ P d M'
theorem seqE {f g : ASt} {ds : DS} {M : AS} {P : D → AS → Prop} (Q : DS → AS → Prop) (h : ∃ ds1 M1, f ds M = some (.nx, ds1, M1) ∧ Q ds1 M1) (h2 : ∀ ds1 M1, Q ds1 M1 → Res (resOf (g ds1 M1)) P) : Res (resOf (fSeq f g ds M)) P := by
  obtain ⟨ds1, M1, e, q⟩ := h
  obtain ⟨d, M', e2, p⟩ := h2 ds1 M1 q
  exact ⟨d, M', seqR e e2, p⟩
theorem lastE {f : ASt} {ds : DS} {M : AS} {P : D → AS → Prop} (h : ∃ ds1 M1, f ds M = some (.nx, ds1, M1) ∧ P .non M1) : Res (resOf (f ds M)) P := by
  obtain ⟨ds1, M1, e, p⟩ := h
  exact ⟨.non, M1, by rw [e]; rfl, p⟩
theorem retE {e : AE} {ds : DS} {M : AS} {P : D → AS → Prop} (h : ∃ d M', e ds M = some (d, M') ∧ P d M') : Res (resOf (fRet e ds M)) P := by
  obtain ⟨d, M', e, p⟩ := h
  exact ⟨d, M', retR e, p⟩
theorem fnE {n : Nat} {b : ASt} {es : List D} {M : AS} {P : D → AS → Prop} (h : Res (resOf (b (es.map some ++ List.replicate (n - es.length) none) M)) P) : Res (fnA n b es M) P := h
theorem eqD_val {n b : Bool} {x y : D} {p q : PyData} {M : AS} (hx : pyM M x = some p) (hy : pyM M y = some q) (sp : SeqAt.shaped p = true) (sq : SeqAt.shaped q = true) (he : PyData.eqv p q = b) : oEqD n x y M = some (.bl (if n then !b else b), M) := by
  unfold oEqD
  rw [hx, hy]
  simp only [sp, sq, he]
  rfl
theorem lmeet_ev {M : AS} {A : CA} {x : St} {s : Sch} {w : Wd} {a : Nat} (hS : SchL M a s) (hna : ¬ A.own a) (C : CoreAt M A x) (hx : x.Ok s) :
    Res (A__law_meet [.ref a, .ref A.c, w.d] M) fun d M' => d = .non ∧ ∃ A', A'.c = A.c ∧ CoreAt M' A' (meetS s x w) ∧ (∀ n, A'.own n → A.own n ∨ M.nx ≤ n) ∧ Fr A.own M M' := by
  have lw := hx.ws
  have hcur := hx.cur
  have c0 := hx.c0
  have c3 := hx.c3
  have p3 : (0 : Int) < 3 := by decide
  obtain ⟨th, cur, hd, ce, clk, ws, lost, heard, pend⟩ := x
  obtain ⟨wr, wa, wt, ww, wc, wf⟩ := w
  simp only [] at lw hcur c0 c3
  clear hx
  have oc : A.own A.c := .inl rfl
  have ow : A.own A.w := .inr (.inr (.inr (.inl rfl)))
  unfold A__law_meet
  refine fnE ?_
  refine seqE (Q := fun ds1 M1 => ds1 = [some (.ref a), some (.ref A.c), some (Wd.d ⟨wr, wa, wt, ww, wc, wf⟩)] ∧ CoreAt M1 A ⟨th, cur, hd, ce, if wt then (clk + 1) % 3 else clk, ws, lost, heard, pend⟩ ∧ Fr A.own M M1) ⟨_, _, ?_, rfl, C.setc cur (if wt then (clk + 1) % 3 else clk) lost heard pend, .set fun _ => oc⟩ ?_
  · have h1 := C.core
    have e1 : (clk + 0) % 3 = clk := by omega
    unfold Wd.d
    clear C hS c0 c3
    cases wt <;> walk_at "ev" <;> rfl
  generalize hk : (if wt then (clk + 1) % 3 else clk) = k
  rintro _ M1 ⟨rfl, C1, f1⟩
  clear c0 c3 C
  refine seqE (Q := fun ds1 M2 => ds1 = [some (.ref a), some (.ref A.c), some (Wd.d ⟨wr, wa, wt, ww, wc, wf⟩)] ∧ CoreAt M2 A ⟨th, cur, hd, ce, k, wsM ⟨th, cur, hd, ce, k, ws, lost, heard, pend⟩ ⟨wr, wa, wt, ww, wc, wf⟩, lost || (ww.isSome && ws.length == 2), heard, pend⟩ ∧ Fr A.own M M2) ?_ ?_
  · have h1 := C1.core
    have h2 := C1.ws
    simp only [] at h1 h2
    have e2 := @len_eq2 ws
    unfold Wd.d wsM
    cases ww with
    | none =>
      refine ⟨_, _, ?_, rfl, (by simp only [Option.isSome, Bool.false_and, Bool.or_false]; exact C1), f1⟩
      clear C1 hS f1
      simp only [arD]
      walk_at "ev"
    | some v =>
      by_cases hl : ws.length = 2
      · have h3 : (ws.length == 2) = true := beq_iff_eq.mpr hl
        refine ⟨_, _, ?_, rfl, (by simp only [Option.isSome, h3, Bool.or_true, Bool.and_self, if_pos hl]; exact C1.setc cur k true heard pend), f1.trans (.set fun _ => oc)⟩
        clear C1 hS f1
        simp only [arD]
        walk_at "ev"
      · have h3 : (ws.length == 2) = false := beq_eq_false_iff_ne.mpr hl
        have l3 : (ws.map D.int).length < 100000 := by rw [List.length_map]; omega
        refine ⟨_, _, ?_, rfl, (by simp only [Option.isSome, h3, Bool.or_false, Bool.and_false, if_neg hl]; exact C1.setw (ws ++ [v])), f1.trans (.set fun _ => ow)⟩
        clear C1 hS f1
        simp only [arD, fApp]
        walk_at "ev"
  generalize hws : wsM ⟨th, cur, hd, ce, k, ws, lost, heard, pend⟩ ⟨wr, wa, wt, ww, wc, wf⟩ = ws1
  generalize hlo : (lost || (ww.isSome && ws.length == 2)) = lost1
  rintro _ M2 ⟨rfl, C2, f2⟩
  clear C1 f1 M1
  refine seqE (Q := fun ds1 M3 => ds1 = [some (.ref a), some (.ref A.c), some (Wd.d ⟨wr, wa, wt, ww, wc, wf⟩)] ∧ CoreAt M3 A ⟨th, cur, hd, ce, k, ws1, lost1, heard, pend || wa⟩ ∧ Fr A.own M M3) ?_ ?_
  · have h1 := C2.core
    simp only [] at h1
    unfold Wd.d
    cases wa with
    | false =>
      refine ⟨_, _, ?_, rfl, (by simp only [Bool.or_false]; exact C2), f2⟩
      clear C2 hS f2
      walk_at "ev"
    | true =>
      refine ⟨_, _, ?_, rfl, (by simp only [Bool.or_true]; exact C2.setc cur k lost1 heard true), f2.trans (.set fun _ => oc)⟩
      clear C2 hS f2
      walk_at "ev"
  generalize hp : (pend || wa) = pend1
  rintro _ M3 ⟨rfl, C3, f3⟩
  clear C2 f2 M2
  refine seqE (Q := fun ds1 M4 => ds1 = [some (.ref a), some (.ref A.c), some (Wd.d ⟨wr, wa, wt, ww, wc, wf⟩)] ∧ CoreAt M4 A ⟨th, if wr && hd.isNone then (cur + 1) % th.length else cur, hd, ce, k, ws1, lost1, heard, pend1⟩ ∧ Fr A.own M M4) ?_ ?_
  · have h1 := C3.core
    have h2 := C3.rows
    have h3 := C3.inn
    have hl : ((A.rs.map D.ref).length : Int) = (th.length : Int) := by rw [List.length_map, C3.len]
    simp only [] at h1
    unfold Wd.d
    cases wr with
    | false =>
      refine ⟨_, _, ?_, rfl, (by simp only [Bool.false_and]; exact C3), f3⟩
      clear C3 hS f3
      walk_at "ev"
    | true =>
      cases hi : A.i with
      | some i =>
        rw [hi] at h1 h3
        cases hd with
        | none => exact h3.elim
        | some p =>
          refine ⟨_, _, ?_, rfl, (by simp only [Option.isNone, Bool.and_false]; exact C3), f3⟩
          clear C3 hS f3
          simp only [innD] at h1
          walk_at "ev"
      | none =>
        rw [hi] at h1 h3
        cases hd with
        | some p => exact h3.elim
        | none =>
          refine ⟨_, _, ?_, rfl, (by simp only [Option.isNone, Bool.and_true]; exact C3.setc ((cur + 1) % th.length) k lost1 heard pend1), f3.trans (.set fun _ => oc)⟩
          rw [hi]
          clear C3 hS f3
          simp only [innD] at h1 ⊢
          by_cases hc : cur + 1 = th.length
          · have d1 : ((cur : Int) == (th.length : Int) - 1) = true := beq_iff_eq.mpr (by omega)
            have d2 : (cur + 1) % th.length = 0 := by rw [hc]; exact Nat.mod_self _
            clear hc
            walk_at "ev" <;> rfl
          · have d1 : ((cur : Int) == (th.length : Int) - 1) = false := beq_eq_false_iff_ne.mpr (by omega)
            have d2 : (cur + 1) % th.length = cur + 1 := Nat.mod_eq_of_lt (by omega)
            clear hc
            walk_at "ev" <;> rfl
  generalize hc1 : (if wr && hd.isNone then (cur + 1) % th.length else cur) = cur1
  rintro _ M4 ⟨rfl, C4, f4⟩
  clear C3 f3 M3
  have S4 := hS.fr f4 hna
  have hth : A_Scheme_handler [.ref a] M4 = some (.tup (s.ha.map insD), M4) := sch_ha S4.1
  have S5 := S4.1
  unfold SchAt at S5
  have fin : ∀ M' : AS, ∀ A' : CA, A'.c = A.c → CoreAt M' A' ⟨th, cur1, if pend1 && (heard && (hd.isNone && !s.ha.isEmpty)) then some (0, 0) else hd, ce, k, ws1, lost1, heard, if pend1 && (heard && (hd.isNone && !s.ha.isEmpty)) then false else pend1⟩ → (∀ n, A'.own n → A.own n ∨ M.nx ≤ n) → Fr A.own M M' → (D.non = .non ∧ ∃ A', A'.c = A.c ∧ CoreAt M' A' (meetS s ⟨th, cur, hd, ce, clk, ws, lost, heard, pend⟩ ⟨wr, wa, wt, ww, wc, wf⟩) ∧ (∀ n, A'.own n → A.own n ∨ M.nx ≤ n) ∧ Fr A.own M M') := by
    intro M' A' h1 h2 h3 h4
    subst hc1 hp hlo hws hk
    exact ⟨rfl, A', h1, h2, h3, h4⟩
  refine lastE ?_
  have h1 := C4.core
  have h3 := C4.inn
  cases hpe : pend1 with
  | false =>
    rw [hpe] at fin h1
    refine ⟨[some (.ref a), some (.ref A.c), some (Wd.d ⟨wr, wa, wt, ww, wc, wf⟩)], _, ?_, fin M4 A rfl (by rw [hpe] at C4; exact C4) (fun n => .inl) f4⟩
    clear fin C4 hS f4 S4 S5 hth
    unfold Wd.d; walk_at "ev" <;> rfl
  | true =>
    rw [hpe] at fin h1
    cases hhe : heard with
    | false =>
      rw [hhe] at fin h1
      refine ⟨[some (.ref a), some (.ref A.c), some (Wd.d ⟨wr, wa, wt, ww, wc, wf⟩)], _, ?_, fin M4 A rfl (by rw [hpe, hhe] at C4; exact C4) (fun n => .inl) f4⟩
      clear fin C4 hS f4 S4 S5 hth
      unfold Wd.d; walk_at "ev" <;> rfl
    | true =>
      rw [hhe] at fin h1
      cases hi : A.i with
      | some i =>
        rw [hi] at h1 h3
        cases hd with
        | none => exact h3.elim
        | some p =>
          refine ⟨[some (.ref a), some (.ref A.c), some (Wd.d ⟨wr, wa, wt, ww, wc, wf⟩)], _, ?_, fin M4 A rfl (by rw [hpe, hhe] at C4; exact C4) (fun n => .inl) f4⟩
          clear fin C4 hS f4 S4 S5 hth
          simp only [innD] at h1
          unfold Wd.d; walk_at "ev" <;> rfl
      | none =>
        rw [hi] at h1 h3
        cases hd with
        | some p => exact h3.elim
        | none =>
          simp only [innD] at h1
          cases hha : s.ha with
          | nil =>
            rw [hha] at fin hth S5
            refine ⟨[some (.ref a), some (.ref A.c), some (Wd.d ⟨wr, wa, wt, ww, wc, wf⟩)], _, ?_, fin M4 A rfl (by rw [hpe, hhe] at C4; exact C4) (fun n => .inl) f4⟩
            have e0 : oEqD true (.tup []) (.tup []) M4 = some (.bl false, M4) := rfl
            simp only [codeD, List.map_nil] at hth S5
            clear fin C4 hS f4 S4
            unfold Wd.d; walk_at "ev" <;> rfl
          | cons i l =>
            rw [hha] at fin hth S5
            have C5 := C4.newi (0, 0) false
            rw [hhe] at C5
            refine ⟨[some (.ref a), some (.ref A.c), some (Wd.d ⟨wr, wa, wt, ww, wc, wf⟩)], _, ?_, fin _ { A with i := some M4.nx } rfl C5 (fun n o => ?_) (f4.trans (Fr.trans .new (.set fun _ => oc)))⟩
            · have hs : SeqAt.shaped (.tuple []) = true := by decide +kernel
              obtain ⟨p, e, cc, dd⟩ := gd_code (k := 0) (i :: l)
              have hs2 : SeqAt.shaped p = true := by unfold SeqAt.shaped; rw [cc, decide_eq_true (by omega)]; rfl
              have he : PyData.eqv p (.tuple []) = false := by
                unfold codeD at e
                simp only [List.map_cons, D.py, D.pys] at e
                split at e
                · next ps h =>
                  split at h
                  · cases h; cases e; rfl
                  · cases h
                · cases e
              have e0 : oEqD true (.tup (insD i :: l.map insD)) (.tup []) M4 = some (.bl true, M4) := by
                exact eqD_val (x := .tup (insD i :: l.map insD)) (y := .tup []) (p := p) (q := .tuple []) e rfl hs2 hs he
              have mn : (M4.new (.lst [.int 0, .int 0])).mem A.c = some (.lst [.ref A.r, .int cur1, .non, .ref A.e, .int k, .ref A.w, .bl lost1, .bl true, .bl true]) := by
                rw [AS.new_ne (Nat.ne_of_lt (C4.lt _ oc))]; exact h1
              simp only [codeD, List.map_cons] at hth S5
              clear fin C4 C5 hS f4 S4 he hs hs2 e
              unfold Wd.d; walk_at "ev"
              rfl
            · rcases o with o | o | o | o | o | o
              · exact .inl (.inl o)
              · exact .inl (.inr (.inl o))
              · exact .inl (.inr (.inr (.inl o)))
              · exact .inl (.inr (.inr (.inr (.inl o))))
              · exact .inl (.inr (.inr (.inr (.inr (.inl o)))))
              · cases o; exact .inr f4.1
end SM
namespace SM
open PySem L2 AL
local macro_rules | `(tactic| walk_at "ev") => `(tactic| simp only [fnA, fSeq, fNx, fIfS, fTst, fTru, truD, fBin, oAdd, oI0, oI, oLt, oLe, oGt, oGe, oSub, oMul, oDiv, oMod, oPow, fVar, fC, fCB, fCons, fNil, fCall, oLen, oInt, oMax2, oMin2, seqOf, lstOf, mutOf, fRet, fRetN, fAsg, gN, fAnd, fOr, fNot, fAndV, fOrV, fNotV, fIf, fTup, fLst, oIx, fDrop, fPar, fChain, oIsN, D.isNon, fFor, fRng1, fuelOf, gSubD, rlim,
  oIsi, oCatL, fApp, fPopAt, oTuple, oList, oEqO, tyD, fIsC, fMake, fMeth, fFldS, fFldAug, fldPut, gFldD, isCls, lkS1, lkS2, lkS3, puts1, puts2, puts3, puts4, puts5, lkM, A_Machine_steps, A_Machine_state, kits, bools, oAll, fItSeq, id, List.all_cons, List.all_nil, c_QUIET, fSl, fNoP, fPart, gTupD, gsCons, gsNil, fProp, fFld, oCatT, eqS, eqI, cut9_3, cut9_37, cut9_13, cut6_4, cut3_2, lkT, lkH, lkK, A_Scheme_threads, A_Scheme_handler, A_Scheme_kinds, c_MOST_WORDS, shW, wtab, ws_eq, beq_self_eq_true, at_2, at_3, at_6, at_9, ix_2, ix_3, ix_6, ix_9, List.mem_singleton,
  Bool.or_true, Bool.or_false, Bool.or_self, Bool.true_or, Bool.false_or, Bool.true_and, Bool.and_true, Bool.false_and, Bool.and_false, List.map_append, List.map_cons, List.map_nil, List.length_cons, List.length_nil, List.replicate, List.cons_append, List.nil_append, List.append_nil, List.getElem?_cons_zero, List.getElem?_cons_succ, List.set_cons_zero, List.set_cons_succ, Nat.reduceAdd, Nat.reduceSub, Nat.reduceLeDiff, Nat.reduceLT, if_true, if_false, Bool.not_true, Bool.not_false, Nat.sub_zero, Nat.sub_self, big, Int.reduceLT, Int.reduceLE, Int.reduceEq, Nat.reduceEqDiff, Int.reduceAdd, Int.reduceSub, Int.reduceMul, Int.reduceMod, Int.reduceDiv, and_self, decide_true, decide_false, Bool.false_eq_true, AS.set_same, AS.set_set, *])
/-- the state with what the word changes aside of the place and the hand -/
def midS (o : Wo) (n : Nat) (h : Int) (y : St) (w : Wd) : St :=
  { y with
    ce := cellS o n h y w
    ws := match o with
      | .wtake => y.ws.tail
      | _ => y.ws
    lost := match o with
      | .wspilt => false
      | _ => y.lost
    heard := match o with
      | .wopen => true
      | .wshut => false
      | _ => y.heard }
def putS (y : St) (p : Nat × Int) : St := match y.hd with
  | none => { y with th := y.th.set y.cur p }
  | some _ => { y with hd := some p }
def IsSpot (A : CA) (y : St) (sp : Nat) : Prop := match y.hd with
  | none => A.rs[y.cur]? = some sp
  | some _ => A.i = some sp
theorem IsSpot.own {A : CA} {y : St} {sp : Nat} (h : IsSpot A y sp) : A.own sp := by
  unfold IsSpot at h
  split at h
  · exact .inr (.inr (.inr (.inr (.inl (List.mem_of_getElem? h)))))
  · exact .inr (.inr (.inr (.inr (.inr h))))
theorem IsSpot.at {M : AS} {A : CA} {y : St} {sp : Nat} (h : IsSpot A y sp) (C : CoreAt M A y) : M.mem sp = some (.lst [.int (rowS y).1, .int (rowS y).2]) := by
  unfold IsSpot at h
  unfold rowS
  split at h
  · next e => (try rw [e]); exact C.row _ _ h
  · next p e =>
    have q := C.inn
    rw [h, e] at q
    (try rw [e])
    exact q
theorem IsSpot.put {M : AS} {A : CA} {y : St} {sp : Nat} (h : IsSpot A y sp) (C : CoreAt M A y) (p : Nat × Int) : CoreAt (M.set sp (.lst [.int p.1, .int p.2])) A (putS y p) := by
  unfold IsSpot at h
  unfold putS
  split at h
  · exact C.setr h p
  · exact C.seti h p
theorem putS_same {y : St} (h : y.cur < y.th.length) : putS y (rowS y) = y := by
  unfold putS rowS
  obtain ⟨th, cur, hd, ce, clk, ws, lost, heard, pend⟩ := y
  cases hd with
  | none =>
    have h : cur < th.length := h
    show St.mk (th.set cur (th.getD cur (0, 0))) _ _ _ _ _ _ _ _ = _
    rw [gD_get h, List.set_getElem_self]
  | some p => rfl
theorem seqIx0 {n : Nat} : seqIndex? 0 (n + 1) = some 0 := by
  unfold seqIndex?
  simp only [Int.reduceLT, if_false]
  rw [if_pos (by simp only [Bool.and_eq_true, decide_eq_true_eq]; omega)]
  rfl
theorem gds_ints {k : Nat} (xs : List Int) : Gds (k + 1) (xs.map D.int) := gds_of fun d h => by
  obtain ⟨i, _, rfl⟩ := List.mem_map.mp h
  exact gd_int i
/-- list against the empty one -/
theorem neNil {M : AS} {x y : D} {ds : List D} (h : Gds 60 ds) (hx : lstOf M x = some ds) (hy : lstOf M y = some []) : oEqD true x y M = some (.bl !ds.isEmpty, M) := by
  obtain ⟨ps, e, c, dd⟩ := h
  have hs : SeqAt.shaped (.list ps) = true := by
    unfold SeqAt.shaped
    rw [show PyData.canLay0 (.list ps) = true from (by simp only [PyData.canLay0, c]), decide_eq_true (by simp only [PyData.depth]; omega)]; rfl
  have hs0 : SeqAt.shaped (.list []) = true := by decide +kernel
  have px : pyM M x = some (.list ps) := by unfold pyM; rw [hx]; simp only [e]
  have py : pyM M y = some (.list []) := by unfold pyM; rw [hy]; rfl
  cases ds with
  | nil =>
    cases e
    rw [eqD_val px py hs hs0 (b := true) rfl]; rfl
  | cons d ds =>
    simp only [D.pys] at e
    split at e
    · cases e
      rw [eqD_val px py hs hs0 (b := false) rfl]; rfl
    · cases e
def brings : Wo → Bool
  | .wset | .wload | .wtime | .wtake | .wcount | .wspilt | .wcall => true
  | _ => false
theorem brought_ev {M : AS} {A : CA} {y : St} {w : Wd} {o : Wo} {n k : Nat} {h : Int} (C : CoreAt M A y) (hn : okN k (o, n)) (hce : y.ce.length = 3) (ho : brings o = true) :
    ∃ M', A__law_brought [.ref A.c, .str o.s, .int n, w.d] M = some (.int (handS o n h y w), M') ∧ CoreAt M' A (midS o n h y w) ∧ Fr A.own M M' := by
  have h1 := C.core
  have oc : A.own A.c := .inl rfl
  have ow : A.own A.w := .inr (.inr (.inr (.inl rfl)))
  unfold A__law_brought handS midS cellS
  cases o <;> first | (exfalso; exact Bool.noConfusion ho) | skip
  case wset =>
    refine ⟨M, ?_, C, .refl⟩
    clear C hn ho
    walk_at "ev"
  case wload =>
    have h2 := C.ce
    have e := atI_map (f := D.int) (l := y.ce) (i := n) 0 (by have : n ≤ 2 := hn; omega)
    refine ⟨M, ?_, C, .refl⟩
    clear C hn ho
    walk_at "ev"
  case wtime =>
    refine ⟨M, ?_, C, .refl⟩
    clear C hn ho
    walk_at "ev"
  case wtake =>
    have h2 := C.ws
    have ne := gds_ints (k := 59) y.ws
    have f0 : Fr No M (M.new (.lst [])) := .new
    have C0 := C.fr f0 fun _ _ z => z
    have h3 := C0.core
    have h4 := C0.ws
    have hq := neNil (M := M.new (.lst [])) (x := .ref A.w) (y := .ref M.nx) ne (by simp only [lstOf, h4]) (by simp only [lstOf, AS.new_same])
    cases hw : y.ws with
    | nil =>
      rw [hw] at h2 h4 hq
      refine ⟨M.new (.lst []), ?_, by rw [show ([] : List Int).tail = y.ws from hw.symm]; exact C0, f0.no⟩
      clear C C0 hn ho f0 ne
      simp only [List.map_nil, List.isEmpty] at hq
      walk_at "ev" <;> rfl
    | cons v l =>
      rw [hw] at h2 h4 hq
      refine ⟨(M.new (.lst [])).set A.w (.lst (l.map D.int)), ?_, C0.setw l, f0.no.trans (.set fun _ => ow)⟩
      clear C C0 hn ho f0 ne
      simp only [List.map_cons, List.isEmpty] at hq h4
      have r1 : -(2 ^ 63) ≤ (0 : Int) ∧ (0 : Int) < 2 ^ 63 := by decide
      have e1 := @seqIx0 (l.map D.int).length
      have e2 : (D.int v :: l.map D.int).eraseIdx 0 = l.map D.int := rfl
      walk_at "ev" <;> rfl
  case wcount =>
    have h2 := C.ws
    have hl : ((y.ws.map D.int).length : Int) = (y.ws.length : Int) := by rw [List.length_map]
    refine ⟨M, ?_, C, .refl⟩
    clear C hn ho
    walk_at "ev"
  case wspilt =>
    refine ⟨_, ?_, C.setc y.cur y.clk false y.heard y.pend, .set fun _ => oc⟩
    clear C hn ho
    cases hl : y.lost with
    | true => rw [hl] at h1; walk_at "ev" <;> rfl
    | false => rw [hl] at h1; walk_at "ev" <;> rfl
  case wcall =>
    refine ⟨M, ?_, C, .refl⟩
    clear C hn ho
    unfold Wd.d
    walk_at "ev"
end SM
namespace SM
open PySem L2 AL
local macro_rules | `(tactic| walk_at "ev") => `(tactic| simp only [fnA, fSeq, fNx, fIfS, fTst, fTru, truD, fBin, oAdd, oI0, oI, oLt, oLe, oGt, oGe, oSub, oMul, oDiv, oMod, oPow, fVar, fC, fCB, fCons, fNil, fCall, oLen, oInt, oMax2, oMin2, seqOf, lstOf, mutOf, fRet, fRetN, fAsg, gN, fAnd, fOr, fNot, fAndV, fOrV, fNotV, fIf, fTup, fLst, oIx, fDrop, fPar, fChain, oIsN, D.isNon, fFor, fRng1, fuelOf, gSubD, rlim,
  oIsi, oCatL, fApp, fPopAt, oTuple, oList, oEqO, tyD, fIsC, fMake, fMeth, fFldS, fFldAug, fldPut, gFldD, isCls, lkS1, lkS2, lkS3, puts1, puts2, puts3, puts4, puts5, lkM, A_Machine_steps, A_Machine_state, kits, bools, oAll, fItSeq, id, List.all_cons, List.all_nil, c_QUIET, fSl, fNoP, fPart, gTupD, gsCons, gsNil, fProp, fFld, oCatT, eqS, eqI, cut9_3, cut9_37, cut9_13, cut6_4, cut3_2, lkT, lkH, lkK, A_Scheme_threads, A_Scheme_handler, A_Scheme_kinds, c_MOST_WORDS, shW, wtab, ws_eq, beq_self_eq_true, at_2, at_3, at_6, at_9, ix_2, ix_3, ix_6, ix_9, List.mem_singleton,
  Bool.or_true, Bool.or_false, Bool.or_self, Bool.true_or, Bool.false_or, Bool.true_and, Bool.and_true, Bool.false_and, Bool.and_false, List.map_append, List.map_cons, List.map_nil, List.length_cons, List.length_nil, List.replicate, List.cons_append, List.nil_append, List.append_nil, List.getElem?_cons_zero, List.getElem?_cons_succ, List.set_cons_zero, List.set_cons_succ, Nat.reduceAdd, Nat.reduceSub, Nat.reduceLeDiff, Nat.reduceLT, if_true, if_false, Bool.not_true, Bool.not_false, Nat.sub_zero, Nat.sub_self, big, Int.reduceLT, Int.reduceLE, Int.reduceEq, Nat.reduceEqDiff, Int.reduceAdd, Int.reduceSub, Int.reduceMul, Int.reduceMod, Int.reduceDiv, and_self, decide_true, decide_false, Bool.false_eq_true, AS.set_same, AS.set_set, *])
theorem inSO {M : AS} : oIn false (.str (Str.ofString "set")) (.tup [.str (Str.ofString "shut"), .str (Str.ofString "open")]) M = some (.bl false, M) ∧ oIn false (.str (Str.ofString "load")) (.tup [.str (Str.ofString "shut"), .str (Str.ofString "open")]) M = some (.bl false, M) ∧ oIn false (.str (Str.ofString "time")) (.tup [.str (Str.ofString "shut"), .str (Str.ofString "open")]) M = some (.bl false, M) ∧ oIn false (.str (Str.ofString "take")) (.tup [.str (Str.ofString "shut"), .str (Str.ofString "open")]) M = some (.bl false, M) ∧ oIn false (.str (Str.ofString "count")) (.tup [.str (Str.ofString "shut"), .str (Str.ofString "open")]) M = some (.bl false, M) ∧ oIn false (.str (Str.ofString "spilt")) (.tup [.str (Str.ofString "shut"), .str (Str.ofString "open")]) M = some (.bl false, M) ∧ oIn false (.str (Str.ofString "call")) (.tup [.str (Str.ofString "shut"), .str (Str.ofString "open")]) M = some (.bl false, M) := ⟨rfl, rfl, rfl, rfl, rfl, rfl, rfl⟩
def toldW (o : Wo) (q : Int) : D := match o with
  | .wshow => .int q
  | _ => .non
theorem midS_same {o : Wo} {n : Nat} {h : Int} {y : St} {w : Wd} (ho : o = .wshow ∨ o = .wjump ∨ o = .wadd) : midS o n h y w = y := by
  rcases ho with rfl | rfl | rfl <;> rfl
theorem mid_hd {o : Wo} {n : Nat} {h : Int} {y : St} {w : Wd} : (midS o n h y w).hd = y.hd := rfl
theorem mid_spot {A : CA} {y : St} {sp : Nat} {o : Wo} {n : Nat} {h : Int} {w : Wd} (H : IsSpot A y sp) : IsSpot A (midS o n h y w) sp := H
theorem put_spot {A : CA} {y : St} {sp : Nat} {p : Nat × Int} (H : IsSpot A y sp) : IsSpot A (putS y p) sp := by
  unfold IsSpot putS at *
  obtain ⟨th, cur, hd, ce, clk, ws, lost, heard, pend⟩ := y
  cases hd <;> exact H
theorem put_put {y : St} {p q : Nat × Int} : putS (putS y p) q = putS y q := by
  unfold putS
  obtain ⟨th, cur, hd, ce, clk, ws, lost, heard, pend⟩ := y
  cases hd with
  | none => simp only [List.set_set]
  | some r => rfl
theorem put_row {y : St} {p : Nat × Int} (h : y.cur < y.th.length) : rowS (putS y p) = p := by
  unfold putS rowS
  obtain ⟨th, cur, hd, ce, clk, ws, lost, heard, pend⟩ := y
  have h : cur < th.length := h
  cases hd with
  | none =>
    show (th.set cur p).getD cur (0, 0) = p
    rw [gD_get (by rw [List.length_set]; exact h), List.getElem_set_self]
  | some r => rfl
theorem lstep_ev {M : AS} {A : CA} {x : St} {s : Sch} {w : Wd} {a : Nat} (hS : SchL M a s) (hna : ¬ A.own a) (C : CoreAt M A x) (S : s.Ok) (hx : x.Ok s) :
    Res (A__law_step [.ref a, .ref A.c, w.d] M) fun d M' => d = .tup [tellS s x w, insD (insS s (meetS s x w))] ∧ ∃ A', A'.c = A.c ∧ CoreAt M' A' (stepS s x w) ∧ (∀ n, A'.own n → A.own n ∨ M.nx ≤ n) ∧ Fr A.own M M' := by
  obtain ⟨_, M1, em, rfl, A1, hAc, C1, ho1, f1⟩ := lmeet_ev (w := w) hS hna C hx
  have hy := meet_ok (w := w) S hx
  unfold stepS tellS
  generalize meetS s x w = y at C1 hy ⊢
  have S1 := hS.fr f1 hna
  have own1 : ∀ n, A1.own n → n < M.nx → A.own n := fun n o h => (ho1 n o).resolve_right (by omega)
  clear C hx
  rw [← hAc] at em ⊢
  clear hAc
  unfold A__law_step
  refine fnE ?_
  have e1 : atI ((codeS s y).map insD) ((rowS y).1 : Int) = some (insD (insS s y)) := atI_map (.wset, 0) (code_len hy)
  have hok := ins_ok S hy
  have hgl := goal_le S hy
  have lc : (((codeS s y).map insD).length : Int) = ((codeS s y).length : Int) := by rw [List.length_map]
  refine seqE (Q := fun ds1 M2 => ds1 = [some (.ref a), some (.ref A1.c), some w.d, none, none, none, none, none, none] ∧ M1 = M2) ⟨_, _, ?_, rfl, rfl⟩ ?_
  · clear C1 S1 hy hok e1 lc hS hgl
    walk_at "ev"
  rintro _ _ ⟨rfl, rfl⟩
  have hth : A_Scheme_threads [.ref a] M1 = some (.tup (s.th.map codeD), M1) := sch_th S1.1
  have hha : A_Scheme_handler [.ref a] M1 = some (codeD s.ha, M1) := sch_ha S1.1
  have hcore := C1.core
  have hrows := C1.rows
  have hinn := C1.inn
  have hlen := C1.len
  have hcur := hy.cur
  obtain ⟨sp, hsp⟩ : ∃ sp, IsSpot A1 y sp := by
    unfold IsSpot
    cases hh : y.hd with
    | none => exact ⟨A1.rs[y.cur]'(by omega), List.getElem?_eq_getElem (by omega)⟩
    | some p =>
      rw [hh] at hinn
      cases hi : A1.i with
      | none => rw [hi] at hinn; exact hinn.elim
      | some i => exact ⟨i, rfl⟩
  refine seqE (Q := fun ds1 M2 => ds1 = [some (.ref a), some (.ref A1.c), some w.d, some (codeD (codeS s y)), none, none, none, none, none] ∧ M1 = M2) ⟨_, _, ?_, rfl, rfl⟩ ?_
  · have e2 := atI_map (f := codeD) (i := y.cur) (l := s.th) [] (by have := hy.len; omega)
    have S2 := S1.1
    unfold SchAt at S2
    unfold codeS
    cases hh : y.hd with
    | none =>
      rw [hh] at hinn
      cases hi : A1.i with
      | some i => rw [hi] at hinn; exact hinn.elim
      | none =>
        rw [hi] at hcore
        simp only [innD] at hcore
        clear C1 S1 hy hok e1 lc hS em hrows hinn hgl
        walk_at "ev"
    | some p =>
      rw [hh] at hinn
      cases hi : A1.i with
      | none => rw [hi] at hinn; exact hinn.elim
      | some i =>
        rw [hi] at hcore
        simp only [innD] at hcore
        clear C1 S1 hy hok e1 lc hS em hrows hinn hgl
        walk_at "ev"
  rintro _ _ ⟨rfl, rfl⟩
  refine seqE (Q := fun ds1 M2 => ds1 = [some (.ref a), some (.ref A1.c), some w.d, some (codeD (codeS s y)), some (.ref sp), none, none, none, none] ∧ M1 = M2) ⟨_, _, ?_, rfl, rfl⟩ ?_
  · unfold IsSpot at hsp
    cases hh : y.hd with
    | none =>
      rw [hh] at hinn hsp
      have e2 : atI (A1.rs.map D.ref) (y.cur : Int) = some (.ref sp) := atI_nat (by rw [List.getElem?_map, hsp]; rfl)
      cases hi : A1.i with
      | some i => rw [hi] at hinn; exact hinn.elim
      | none =>
        rw [hi] at hcore
        simp only [innD] at hcore
        clear C1 S1 hy hok e1 lc hS em hinn hsp hgl
        walk_at "ev"
    | some p =>
      rw [hh] at hinn hsp
      simp only [] at hsp
      rw [hsp] at hcore
      simp only [innD] at hcore
      clear C1 S1 hy hok e1 lc hS em hrows hinn hsp hgl
      walk_at "ev"
  rintro _ _ ⟨rfl, rfl⟩
  refine seqE (Q := fun ds1 M2 => ds1 = [some (.ref a), some (.ref A1.c), some w.d, some (codeD (codeS s y)), some (.ref sp), some .non, none, none, none] ∧ M1 = M2) ⟨_, _, rfl, rfl, rfl⟩ ?_
  rintro _ _ ⟨rfl, rfl⟩
  have hspot := hsp.at C1
  generalize hi : insS s y = i at *
  obtain ⟨o, n⟩ := i
  refine seqE (Q := fun ds1 M2 => ds1 = [some (.ref a), some (.ref A1.c), some w.d, some (codeD (codeS s y)), some (.ref sp), some .non, some (.str o.s), some (.int n), none] ∧ M1 = M2) ⟨_, _, ?_, rfl, rfl⟩ ?_
  · clear C1 S1 hy hok lc hS em hrows hinn hsp hcore hgl
    unfold codeD
    simp only [insD] at e1 ⊢
    walk_at "ev"
  rintro _ _ ⟨rfl, rfl⟩
  refine seqE (Q := fun ds1 M2 => ds1 = [some (.ref a), some (.ref A1.c), some w.d, some (codeD (codeS s y)), some (.ref sp), some .non, some (.str o.s), some (.int n), some (.int (((rowS y).1 + 1 : Nat) : Int))] ∧ M1 = M2) ⟨_, _, ?_, rfl, rfl⟩ ?_
  · clear C1 S1 hy hok lc hS em hrows hinn hsp hcore hgl e1
    walk_at "ev"
    rfl
  rintro _ _ ⟨rfl, rfl⟩
  have hb : ∀ h, brings o = true → _ := fun h hb => brought_ev (w := w) (h := h) C1 hok hy.ce hb
  have oc : A1.own A1.c := .inl rfl
  have oe : A1.own A1.e := .inr (.inr (.inl rfl))
  have os := hsp.own
  have hrow := putS_same hy.cur
  refine seqE (Q := fun ds1 M2 => ds1 = [some (.ref a), some (.ref A1.c), some w.d, some (codeD (codeS s y)), some (.ref sp), some (toldS s y), some (.str o.s), some (.int n), some (.int (goalS o n (rowS y).1 (rowS y).2 : Nat))] ∧ CoreAt M2 A1 (putS (midS o n (rowS y).2 y w) ((rowS y).1, handS o n (rowS y).2 y w)) ∧ Fr A1.own M1 M2) ?_ ?_
  · have hmid : ∀ M', CoreAt M' A1 (midS o n (rowS y).2 y w) → M'.mem sp = some (.lst [.int (rowS y).1, .int (rowS y).2]) := fun M' c => (mid_spot hsp).at c
    have hput : ∀ M', CoreAt M' A1 (midS o n (rowS y).2 y w) → ∀ h, CoreAt (M'.set sp (.lst [.int (rowS y).1, .int h])) A1 (putS (midS o n (rowS y).2 y w) ((rowS y).1, h)) := fun M' c h => (mid_spot hsp).put c ((rowS y).1, h)
    have hkeep : ∀ M', handS o n (rowS y).2 y w = (rowS y).2 → CoreAt M' A1 (midS o n (rowS y).2 y w) → CoreAt M' A1 (putS (midS o n (rowS y).2 y w) ((rowS y).1, handS o n (rowS y).2 y w)) := fun M' e c => by
      rw [e]
      have : rowS y = rowS (midS o n (rowS y).2 y w) := rfl
      rw [show ((rowS y).1, (rowS y).2) = rowS (midS o n (rowS y).2 y w) from rfl, putS_same (y := midS o n (rowS y).2 y w) hy.cur]
      exact c
    have hbr := hb (rowS y).2
    have hte : toldS s y = toldW o (rowS y).2 := by
      show toldW (insS s y).1 (rowS y).2 = _
      rw [hi]
    have hce := C1.ce
    have h3 : y.ce.length = 3 := hy.ce
    have p3 : (0 : Int) < 3 := by decide
    rw [hte]
    generalize hr : rowS y = r at *
    obtain ⟨p, q⟩ := r
    simp only [] at *
    have gen : brings o = true → fAsg (fCall A__law_brought (fCons (fVar 1) (fCons (fVar 6) (fCons (fVar 7) (fCons (fVar 2) fNil))))) (gSubD (fVar 4) (fC (.int 1))) = fAsg (fCall A__law_brought (fCons (fVar 1) (fCons (fVar 6) (fCons (fVar 7) (fCons (fVar 2) fNil))))) (gSubD (fVar 4) (fC (.int 1))) := fun _ => rfl
    clear gen hth hha hS S1 hinn hrows em e1 lc hgl hcur hlen hi hte hy
    cases o
    case wshow =>
      refine ⟨_, _, ?_, rfl, hkeep M1 rfl C1, .refl⟩
      clear hkeep hput hmid hbr hb C1 hok
      unfold goalS toldW
      walk_at "ev"
    case wjump =>
      refine ⟨_, _, ?_, rfl, hkeep M1 rfl C1, .refl⟩
      clear hkeep hput hmid hbr hb C1 hok
      unfold goalS toldW
      have hin : ∀ M : AS, oIn false (.str (Str.ofString "jump")) (.tup [.str (Str.ofString "shut"), .str (Str.ofString "open")]) M = some (.bl false, M) := fun _ => rfl
      by_cases hz : q = 0
      · subst hz
        walk_at "ev"
      · have hb : (q == 0) = false := beq_eq_false_iff_ne.mpr hz
        walk_at "ev"
    case wadd =>
      refine ⟨_, _, ?_, rfl, hput M1 C1 _, .set fun _ => os⟩
      have e := atI_map (f := D.int) (l := y.ce) (i := n) 0 (by have : n ≤ 2 := hok; omega)
      clear hkeep hput hmid hbr hb C1 hok
      unfold goalS toldW handS
      walk_at "ev"
    case wsave =>
      have c2 := C1.sete (y.ce.set n q)
      have hn : n ≤ 2 := hok
      have e : ixN (y.ce.map D.int).length (n : Int) = some n := by
        rw [List.length_map, h3]; unfold ixN; rw [if_pos (by omega), if_pos (by omega)]; rfl
      refine ⟨_, _, ?_, rfl, hkeep _ rfl c2, .set fun _ => oe⟩
      clear hkeep hput hmid hbr hb C1 hok c2 hn h3
      unfold goalS toldW
      walk_at "ev"
      rw [List.map_set]
    case wfirst =>
      have c2 := C1.sete (y.ce.set n w.f)
      have hn : n ≤ 2 := hok
      have e : ixN (y.ce.map D.int).length (n : Int) = some n := by
        rw [List.length_map, h3]; unfold ixN; rw [if_pos (by omega), if_pos (by omega)]; rfl
      refine ⟨_, _, ?_, rfl, hkeep _ rfl c2, .set fun _ => oe⟩
      clear hkeep hput hmid hbr hb C1 hok c2 hn h3
      unfold goalS toldW Wd.d
      walk_at "ev"
      rw [List.map_set]
    case wshut =>
      have c2 := C1.setc y.cur y.clk y.lost false y.pend
      refine ⟨_, _, ?_, rfl, hkeep _ rfl c2, .set fun _ => oc⟩
      clear hkeep hput hmid hbr hb C1 hok c2
      unfold goalS toldW
      have hin : ∀ M : AS, oIn false (.str (Str.ofString "shut")) (.tup [.str (Str.ofString "shut"), .str (Str.ofString "open")]) M = some (.bl true, M) := fun _ => rfl
      walk_at "ev"
    case wopen =>
      have c2 := C1.setc y.cur y.clk y.lost true y.pend
      refine ⟨_, _, ?_, rfl, hkeep _ rfl c2, .set fun _ => oc⟩
      clear hkeep hput hmid hbr hb C1 hok c2
      unfold goalS toldW
      have hin : ∀ M : AS, oIn false (.str (Str.ofString "open")) (.tup [.str (Str.ofString "shut"), .str (Str.ofString "open")]) M = some (.bl true, M) := fun _ => rfl
      walk_at "ev"
    all_goals
      obtain ⟨M2, e2, c2, f2⟩ := hbr rfl
      refine ⟨_, _, ?_, rfl, hput M2 c2 _, f2.trans (.set fun _ => os)⟩
      have hm2 := hmid M2 c2
      have hin := fun M => @inSO M
      clear hkeep hput hmid hbr hb C1 hok c2 hcore f2
      unfold goalS toldW
      simp only [ws_eq] at e2
      walk_at "ev"
  generalize hr : rowS y = r at *
  obtain ⟨p, q⟩ := r
  simp only [] at *
  generalize hg : goalS o n p q = g at *
  generalize hh : handS o n q y w = v at *
  rintro _ M2 ⟨rfl, C2, f2⟩
  have hsp2 : IsSpot A1 (putS (midS o n q y w) (p, v)) sp := put_spot (mid_spot hsp)
  have hm2 := hsp2.at C2
  rw [put_row (y := midS o n q y w) hy.cur] at hm2
  have C3 := hsp2.put C2 (if g < (codeS s y).length then g else 0, v)
  rw [put_put] at C3
  refine seqE (Q := fun ds1 M3 => ds1 = [some (.ref a), some (.ref A1.c), some w.d, some (codeD (codeS s y)), some (.ref sp), some (toldS s y), some (.str o.s), some (.int n), some (.int g)] ∧ CoreAt M3 A1 (putS (midS o n q y w) (if g < (codeS s y).length then g else 0, v)) ∧ Fr A1.own M1 M3) ⟨_, _, ?_, rfl, C3, f2.trans (.set fun _ => os)⟩ ?_
  · clear C3 C2 C1 hb hcore hrows hinn hth hha em hS S1 hy hok e1 hspot hgl
    unfold codeD
    by_cases hl : g < (codeS s y).length
    · have d : decide ((g : Int) < ((codeS s y).length : Int)) = true := decide_eq_true (by omega)
      simp only [if_pos hl]
      clear hl
      walk_at "ev"
    · have d : decide ((g : Int) < ((codeS s y).length : Int)) = false := decide_eq_false (by omega)
      simp only [if_neg hl]
      clear hl
      walk_at "ev"
      rfl
  clear C2 C3 f2 M2 hm2 hsp2
  rintro _ M3 ⟨rfl, C3, f3⟩
  have hd1 : g < (codeS s y).length → doneS s y w = putS (midS o n q y w) (g, v) := fun hl => by
    unfold doneS
    simp only [hi, hr, hg, hh]
    generalize codeS s y = c at hl ⊢
    unfold putS midS
    obtain ⟨th, cur, hd, ce, clk, ws, lost, heard, pend⟩ := y
    cases hd with
    | none => simp only [Nat.mod_eq_of_lt hl]; try rfl
    | some r => simp only [if_pos hl]; try rfl
  have hd2 : ¬ g < (codeS s y).length → doneS s y w = { putS (midS o n q y w) (0, v) with hd := none } := fun hl => by
    unfold doneS
    simp only [hi, hr, hg, hh]
    generalize codeS s y = c at hl hgl ⊢
    unfold putS midS
    have e : g % c.length = 0 := by rw [show g = c.length by omega]; exact Nat.mod_self _
    obtain ⟨th, cur, hd, ce, clk, ws, lost, heard, pend⟩ := y
    cases hd with
    | none => simp only [e]; try rfl
    | some r => simp only [if_neg hl]; try rfl
  have fr : ∀ {M3 : AS}, Fr A1.own M1 M3 → Fr A.own M M3 := fun f => ⟨Nat.le_trans f1.1 f.1, fun n h1 h2 => (f.2 n (Nat.lt_of_lt_of_le h1 f1.1) fun o => h2 (own1 n o h1)).trans (f1.2 n h1 h2)⟩
  have told : toldS s y = toldS s y := rfl
  refine seqE (Q := fun ds1 M4 => ds1 = [some (.ref a), some (.ref A1.c), some w.d, some (codeD (codeS s y)), some (.ref sp), some (toldS s y), some (.str o.s), some (.int n), some (.int g)] ∧ ∃ A', A'.c = A1.c ∧ CoreAt M4 A' (doneS s y w) ∧ (∀ n, A'.own n → A.own n ∨ M.nx ≤ n) ∧ Fr A.own M M4) ?_ ?_
  · by_cases hl : g < (codeS s y).length
    · rw [if_pos hl, ← hd1 hl] at C3
      refine ⟨_, _, ?_, rfl, A1, rfl, C3, ho1, fr f3⟩
      have d : ((g : Int) == ((codeS s y).length : Int)) = false := beq_eq_false_iff_ne.mpr (by omega)
      clear C3 C1 hb hcore hrows hinn hth hha em hS S1 hy hok e1 hspot hgl hl
      unfold codeD
      walk_at "ev"
    · rw [if_neg hl] at C3
      have C4 := C3.endi
      rw [← hd2 hl] at C4
      have h3 := C3.core
      refine ⟨_, _, ?_, rfl, { A1 with i := none }, rfl, C4, fun n o => ho1 n ?_, fr (f3.trans (.set fun _ => oc))⟩
      · have d : ((g : Int) == ((codeS s y).length : Int)) = true := beq_iff_eq.mpr (by omega)
        clear C3 C4 C1 hb hcore hrows hinn hth hha em hS S1 hy hok e1 hspot hgl hl
        unfold codeD
        walk_at "ev"
      · rcases o with o | o | o | o | o | o
        · exact .inl o
        · exact .inr (.inl o)
        · exact .inr (.inr (.inl o))
        · exact .inr (.inr (.inr (.inl o)))
        · exact .inr (.inr (.inr (.inr (.inl o))))
        · cases o
  rintro _ M4 ⟨rfl, q4⟩
  refine retE ⟨_, _, ?_, rfl, q4⟩
  clear q4 C3 C1 hb hcore hrows hinn hth hha em hS S1 hy hok e1 hspot hgl
  simp only [insD]
  walk_at "ev"
end SM
namespace SM
open PySem L2 AL
local macro_rules | `(tactic| walk_at "ev") => `(tactic| simp only [fnA, fSeq, fNx, fIfS, fTst, fTru, truD, fBin, oAdd, oI0, oI, oLt, oLe, oGt, oGe, oSub, oMul, oDiv, oMod, oPow, fVar, fC, fCB, fCons, fNil, fCall, oLen, oInt, oMax2, oMin2, seqOf, lstOf, mutOf, fRet, fRetN, fAsg, gN, fAnd, fOr, fNot, fAndV, fOrV, fNotV, fIf, fTup, fLst, oIx, fDrop, fPar, fChain, oIsN, D.isNon, fFor, fRng1, fuelOf, gSubD, rlim,
  oIsi, oCatL, fApp, fPopAt, oTuple, oList, oEqO, tyD, fIsC, fMake, fMeth, fFldS, fFldAug, fldPut, gFldD, isCls, lkS1, lkS2, lkS3, puts1, puts2, puts3, puts4, puts5, lkM, A_Machine_steps, A_Machine_state, kits, bools, oAll, fItSeq, id, List.all_cons, List.all_nil, c_QUIET, fSl, fNoP, fPart, gTupD, gsCons, gsNil, fProp, fFld, oCatT, eqS, eqI, cut9_3, cut9_37, cut9_13, cut6_4, cut3_2, lkT, lkH, lkK, A_Scheme_threads, A_Scheme_handler, A_Scheme_kinds, c_MOST_WORDS, shW, wtab, ws_eq, beq_self_eq_true, at_2, at_3, at_6, at_9, ix_2, ix_3, ix_6, ix_9, List.mem_singleton,
  Bool.or_true, Bool.or_false, Bool.or_self, Bool.true_or, Bool.false_or, Bool.true_and, Bool.and_true, Bool.false_and, Bool.and_false, List.map_append, List.map_cons, List.map_nil, List.length_cons, List.length_nil, List.replicate, List.cons_append, List.nil_append, List.append_nil, List.getElem?_cons_zero, List.getElem?_cons_succ, List.set_cons_zero, List.set_cons_succ, Nat.reduceAdd, Nat.reduceSub, Nat.reduceLeDiff, Nat.reduceLT, if_true, if_false, Bool.not_true, Bool.not_false, Nat.sub_zero, Nat.sub_self, big, Int.reduceLT, Int.reduceLE, Int.reduceEq, Nat.reduceEqDiff, Int.reduceAdd, Int.reduceSub, Int.reduceMul, Int.reduceMod, Int.reduceDiv, and_self, decide_true, decide_false, Bool.false_eq_true, AS.set_same, AS.set_set, *])
theorem lcC_inv {I : Itr} {xs : List D} {g : AG} {f : AE} {n0 : Nat} {ds : DS} (P : Nat → List D → AS → Prop) (hb : xs.length ≤ 1000)
    (hI : ∀ i acc M, P i acc M → itAt I M i = some xs[i]?)
    (hs : ∀ i (hi : i < xs.length) acc M, acc.length = i → M.mem n0 = some (.lst acc) → P i acc M → ∃ ds1 M1 y M2, g xs[i] ds M = some (ds1, M1) ∧ f ds1 M1 = some (y, M2) ∧ M2.mem n0 = some (.lst acc) ∧ P (i + 1) (acc ++ [y]) (M2.set n0 (.lst (acc ++ [y])))) :
    ∀ (j i k : Nat) (acc : List D) (M : AS), i + j = xs.length → j < k → acc.length = i → M.mem n0 = some (.lst acc) → P i acc M → ∃ acc' M', lcLoop I g tYesA f n0 ds k i M = some M' ∧ acc'.length = xs.length ∧ M'.mem n0 = some (.lst acc') ∧ P xs.length acc' M'
  | _, _, 0, _, _, _, hk, _, _, _ => absurd hk (Nat.not_lt_zero _)
  | 0, i, k + 1, acc, M, h, hk, hl, hm, p => by
    have hi : i = xs.length := by omega
    refine ⟨acc, M, ?_, by omega, hm, hi ▸ p⟩
    have e : xs[i]? = none := List.getElem?_eq_none (by omega)
    rw [lcLoop, hI i acc M p, e]
  | j + 1, i, k + 1, acc, M, h, hk, hl, hm, p => by
    have hi : i < xs.length := by omega
    obtain ⟨ds1, M1, y, M2, e1, e2, hm2, p2⟩ := hs i hi acc M hl hm p
    obtain ⟨acc', M', e3, l3, m3, p3⟩ := lcC_inv P hb hI hs j (i + 1) k (acc ++ [y]) (M2.set n0 (.lst (acc ++ [y]))) (by omega) (by omega) (by rw [List.length_append]; exact congrArg (· + 1) hl) AS.set_same p2
    refine ⟨acc', M', ?_, l3, m3, p3⟩
    have e : xs[i]? = some xs[i] := List.getElem?_eq_getElem hi
    have lb : acc.length < big := by show _ < 100000; omega
    rw [lcLoop, hI i acc M p, e]
    simp only [e1, tYesA, e2, hm2, if_pos lb, e3]
/-- over a list that stands: the items are what f makes of them, the store grows -/
theorem flc_mapC {n : Nat} {xs : List D} {fi : AI} {g : AG} {f : AE} {vs : List Nat} {ds : DS} {M M1 : AS} (fy : D → D) (hi : fi ds M = some (.cell n, M1)) (hn : M1.mem n = some (.lst xs)) (hlt : n < M1.nx) (hb : xs.length ≤ 1000)
    (hs : ∀ x ∈ xs, ∀ M, Fr No M1 M → ∃ ds1 M2, g x (wipeD ds vs) M = some (ds1, M) ∧ f ds1 M = some (fy x, M2) ∧ Fr No M M2) :
    ∃ M', fLc fi g tYesA f vs ds M = some (.ref M1.nx, M') ∧ M'.mem M1.nx = some (.lst (xs.map fy)) ∧ Fr No M1 M' ∧ M1.nx < M'.nx := by
  obtain ⟨acc, M', e, l, m, p1, p2, p3⟩ := lcC_inv (I := .cell n) (n0 := M1.nx) (ds := wipeD ds vs) (f := f) (g := g) (xs := xs) (fun i acc M => acc = (xs.take i).map fy ∧ Fr No M1 M ∧ M1.nx < M.nx) hb (fun i acc M p => by
      simp only [itAt, lstOf, p.2.1.at hn hlt id]) (fun i hi acc M hl hm ⟨p1, p2, p3⟩ => by
    obtain ⟨ds1, M2, e1, e2, q⟩ := hs xs[i] (List.getElem_mem hi) M p2
    refine ⟨ds1, M, fy xs[i], M2, e1, e2, q.at hm p3 (fun z => z), ?_, ⟨(p2.trans q).1, fun n h1 h2 => (AS.set_ne (Nat.ne_of_lt h1)).trans ((p2.trans q).2 n h1 h2)⟩, Nat.lt_of_lt_of_le p3 q.1⟩
    · rw [List.take_succ, List.getElem?_eq_getElem hi, List.map_append, p1]; rfl) xs.length 0 100000 [] (M1.new (.lst [])) (Nat.zero_add _) (by omega) rfl AS.new_same ⟨by rw [List.take_zero]; rfl, Fr.new, Nat.lt_succ_self _⟩
  refine ⟨M', ?_, ?_, p2, p3⟩
  · unfold fLc
    rw [hi]
    show (match lcLoop (.cell n) g tYesA f M1.nx (wipeD ds vs) 100000 0 (M1.new (.lst [])) with | some M2 => some (D.ref M1.nx, M2) | none => none) = _
    rw [e]
  · rw [p1, List.take_length] at m
    exact m
theorem lstate_ev {M : AS} {A : CA} {x : St} (C : CoreAt M A x) (hb : x.th.length ≤ 3) : Res (A__law_state [.ref A.c] M) fun d M' => d = x.d ∧ Fr No M M' := by
  have h1 := C.core
  have hinn := C.inn
  have hrows := C.rows
  unfold A__law_state
  refine fnE ?_
  refine seqE (Q := fun ds1 M2 => ds1 = [some (.ref A.c), some (hdD x.hd), none, none, none] ∧ M = M2) ⟨_, _, ?_, rfl, rfl⟩ ?_
  · cases hi : A.i with
    | none =>
      rw [hi] at h1 hinn
      cases hh : x.hd with
      | some p => rw [hh] at hinn; exact hinn.elim
      | none =>
        simp only [innD] at h1
        clear C hinn
        simp only [hdD]
        walk_at "ev"
    | some i =>
      rw [hi] at h1 hinn
      cases hh : x.hd with
      | none => rw [hh] at hinn; exact hinn.elim
      | some p =>
        rw [hh] at hinn
        have hinn : M.mem i = some (.lst [.int p.1, .int p.2]) := hinn
        simp only [innD] at h1
        clear C
        simp only [hdD, rowD]
        walk_at "ev"
  rintro _ _ ⟨rfl, rfl⟩
  have hrl : (A.rs.map D.ref).length ≤ 1000 := by rw [List.length_map, C.len]; omega
  let fy : D → D := fun d => match d with
    | .ref n => match M.mem n with
      | some (.lst xs) => .tup xs
      | _ => .non
    | _ => .non
  obtain ⟨M1, e1, m1, f1, l1⟩ := flc_mapC (M := M) (M1 := M) (ds := [some (.ref A.c), some (hdD x.hd), none, none, none]) (vs := [3]) (g := gN 3) (f := fCB oTuple (fCons (fVar 3) fNil)) (fi := fItSeq (fBin oIx (fVar 0) (fC (.int 0)))) (n := A.r) (xs := A.rs.map D.ref) fy
    (by
      clear C hinn
      walk_at "ev") hrows (C.lt _ (.inr (.inl rfl))) hrl (fun d hd M2 f2 => by
      obtain ⟨n, hn, rfl⟩ := List.mem_map.mp hd
      obtain ⟨j, hj⟩ := List.getElem?_of_mem hn
      have hm := C.row j n hj
      have hm2 := f2.at hm (C.lt _ (.inr (.inr (.inr (.inr (.inl hn)))))) id
      refine ⟨_, M2, rfl, ?_, .refl⟩
      simp only [fy, hm]
      clear C hinn h1 hrows f2 hm
      simp only [wipeD]
      walk_at "ev")
  have ef : (A.rs.map D.ref).map fy = x.th.map rowD := by
    refine List.ext_getElem (by rw [List.length_map, List.length_map, List.length_map, C.len]) fun j h1 h2 => ?_
    rw [List.getElem_map, List.getElem_map, List.getElem_map]
    have hj : j < A.rs.length := by rw [List.length_map, List.length_map] at h1; exact h1
    have hm := C.row j _ (List.getElem?_eq_getElem hj)
    simp only [fy, hm]
    rw [gD_get (by have := C.len; omega)]
    rfl
  rw [ef] at m1
  refine seqE (Q := fun ds1 M2 => ds1 = [some (.ref A.c), some (hdD x.hd), some (.tup (x.th.map rowD)), none, none] ∧ M1 = M2) ⟨_, _, ?_, rfl, rfl⟩ ?_
  · generalize fLc (fItSeq (fBin oIx (fVar 0) (fC (.int 0)))) (gN 3) tYesA (fCB oTuple (fCons (fVar 3) fNil)) [3] = L at e1 ⊢
    clear C hinn h1 hrows f1
    walk_at "ev"
  rintro _ _ ⟨rfl, rfl⟩
  have C1 := C.fr f1 fun _ _ z => z
  have h2 := C1.core
  have h3 := C1.ce
  have h4 := C1.ws
  refine seqE (Q := fun ds1 M2 => ds1 = [some (.ref A.c), some (hdD x.hd), some (.tup (x.th.map rowD)), none, some (.tup [.tup (x.th.map rowD), .int x.cur, hdD x.hd, intsD x.ce, .int x.clk, intsD x.ws])] ∧ M1 = M2) ⟨_, _, ?_, rfl, rfl⟩ ?_
  · clear C hinn h1 hrows f1 C1 ef e1
    unfold intsD
    walk_at "ev"
  rintro _ _ ⟨rfl, rfl⟩
  refine retE ⟨_, _, ?_, rfl, f1⟩
  clear C hinn h1 hrows f1 C1 ef e1 h3 h4
  unfold St.d
  walk_at "ev"
/-- a core all of whose parts are new -/
theorem core_made {M : AS} {x : St} {c r e w k : Nat} {i : Option Nat} (hk : x.th.length = k)
    (hc : M.mem c = some (.lst [.ref r, .int x.cur, innD i, .ref e, .int x.clk, .ref w, .bl x.lost, .bl x.heard, .bl x.pend]))
    (hr : M.mem r = some (.lst ((List.range k).map fun j => D.ref (r + 1 + j)))) (hrow : ∀ j, j < k → M.mem (r + 1 + j) = some (.lst [.int (x.th.getD j (0, 0)).1, .int (x.th.getD j (0, 0)).2]))
    (he : M.mem e = some (.lst (x.ce.map D.int))) (hw : M.mem w = some (.lst (x.ws.map D.int))) (hi : InnAt M i x.hd)
    (o1 : r + k < e) (o2 : e < w) (o3 : w < c) (o4 : c < M.nx) (oi : ∀ j, i = some j → j < r) :
    CoreAt M ⟨c, r, e, w, (List.range k).map fun j => r + 1 + j, i⟩ x where
  core := hc
  rows := by
    show M.mem r = some (.lst (((List.range k).map fun j => r + 1 + j).map D.ref))
    rw [List.map_map]; exact hr
  len := by show ((List.range k).map _).length = _; rw [List.length_map, List.length_range, hk]
  row := fun j n h => by
    have h : ((List.range k).map fun j => r + 1 + j)[j]? = some n := h
    rw [List.getElem?_map] at h
    cases hj : (List.range k)[j]? with
    | none => rw [hj] at h; cases h
    | some m =>
      rw [hj] at h
      obtain ⟨hl, hm⟩ := List.getElem?_eq_some_iff.mp hj
      rw [List.getElem_range] at hm
      rw [List.length_range] at hl
      subst hm
      cases h
      exact hrow j hl
  ce := he
  ws := hw
  inn := hi
  sep := by
    refine ⟨?_, ?_, ?_, ?_, ?_, ?_, fun j hj => ?_, ?_, fun j hj => ?_⟩
    · show c ≠ r; omega
    · show c ≠ e; omega
    · show c ≠ w; omega
    · show r ≠ e; omega
    · show r ≠ w; omega
    · show e ≠ w; omega
    · obtain ⟨m, hm, rfl⟩ := List.mem_map.mp hj
      have hm := List.mem_range.mp hm
      show r + 1 + m ≠ c ∧ r + 1 + m ≠ r ∧ r + 1 + m ≠ e ∧ r + 1 + m ≠ w
      omega
    · show List.Nodup ((List.range k).map fun j => r + 1 + j)
      rw [List.nodup_iff_pairwise_ne, List.pairwise_map]
      exact List.nodup_range.imp fun h => by omega
    · have hj := oi j hj
      refine ⟨by show j ≠ c; omega, by show j ≠ r; omega, by show j ≠ e; omega, by show j ≠ w; omega, fun z => ?_⟩
      obtain ⟨m, hm, e⟩ := List.mem_map.mp z
      omega
  lt := fun n o => by
    rcases o with o | o | o | o | o | o
    · have o : n = c := o; omega
    · have o : n = r := o; omega
    · have o : n = e := o; omega
    · have o : n = w := o; omega
    · obtain ⟨m, hm, rfl⟩ := List.mem_map.mp o
      have hm := List.mem_range.mp hm
      omega
    · have := oi n o; omega
end SM
namespace SM
open PySem L2 AL
local macro_rules | `(tactic| walk_at "ev") => `(tactic| simp only [fnA, fSeq, fNx, fIfS, fTst, fTru, truD, fBin, oAdd, oI0, oI, oLt, oLe, oGt, oGe, oSub, oMul, oDiv, oMod, oPow, fVar, fC, fCB, fCons, fNil, fCall, oLen, oInt, oMax2, oMin2, seqOf, lstOf, mutOf, fRet, fRetN, fAsg, gN, fAnd, fOr, fNot, fAndV, fOrV, fNotV, fIf, fTup, fLst, oIx, fDrop, fPar, fChain, oIsN, D.isNon, fFor, fRng1, fuelOf, gSubD, rlim,
  oIsi, oCatL, fApp, fPopAt, oTuple, oList, oEqO, tyD, fIsC, fMake, fMeth, fFldS, fFldAug, fldPut, gFldD, isCls, lkS1, lkS2, lkS3, puts1, puts2, puts3, puts4, puts5, lkM, A_Machine_steps, A_Machine_state, kits, bools, oAll, fItSeq, id, List.all_cons, List.all_nil, c_QUIET, fSl, fNoP, fPart, gTupD, gsCons, gsNil, fProp, fFld, oCatT, eqS, eqI, cut9_3, cut9_37, cut9_13, cut6_4, cut3_2, lkT, lkH, lkK, A_Scheme_threads, A_Scheme_handler, A_Scheme_kinds, c_MOST_WORDS, shW, wtab, ws_eq, beq_self_eq_true, at_2, at_3, at_6, at_9, ix_2, ix_3, ix_6, ix_9, List.mem_singleton,
  Bool.or_true, Bool.or_false, Bool.or_self, Bool.true_or, Bool.false_or, Bool.true_and, Bool.and_true, Bool.false_and, Bool.and_false, List.map_append, List.map_cons, List.map_nil, List.length_cons, List.length_nil, List.replicate, List.cons_append, List.nil_append, List.append_nil, List.getElem?_cons_zero, List.getElem?_cons_succ, List.set_cons_zero, List.set_cons_succ, Nat.reduceAdd, Nat.reduceSub, Nat.reduceLeDiff, Nat.reduceLT, if_true, if_false, Bool.not_true, Bool.not_false, Nat.sub_zero, Nat.sub_self, big, Int.reduceLT, Int.reduceLE, Int.reduceEq, Nat.reduceEqDiff, Int.reduceAdd, Int.reduceSub, Int.reduceMul, Int.reduceMod, Int.reduceDiv, and_self, decide_true, decide_false, Bool.false_eq_true, AS.set_same, AS.set_set, *])
theorem rows_new {xs : List D} {fi : AI} {g : AG} {f : AE} {vs : List Nat} {ds : DS} {M M1 : AS} (fy : D → List D) (hi : fi ds M = some (.fix xs, M1)) (hb : xs.length ≤ 1000)
    (hs : ∀ x ∈ xs, ∀ M', ∃ ds1, g x (wipeD ds vs) M' = some (ds1, M') ∧ f ds1 M' = some (.ref M'.nx, M'.new (.lst (fy x)))) :
    ∃ M', fLc fi g tYesA f vs ds M = some (.ref M1.nx, M') ∧ M'.mem M1.nx = some (.lst ((List.range xs.length).map fun j => D.ref (M1.nx + 1 + j))) ∧ (∀ j (h : j < xs.length), M'.mem (M1.nx + 1 + j) = some (.lst (fy xs[j]))) ∧ M'.nx = M1.nx + 1 + xs.length ∧ Fr No M1 M' := by
  obtain ⟨acc, M', e, l, m, p1, p2, p3, p4⟩ := flc_inv (M1 := M1) (ds := ds) (f := f) (vs := vs) (g := g) (fun i acc M => acc = (List.range i).map (fun j => D.ref (M1.nx + 1 + j)) ∧ M.nx = M1.nx + 1 + i ∧ (∀ j (h : j < xs.length), j < i → M.mem (M1.nx + 1 + j) = some (.lst (fy xs[j]))) ∧ Fr No M1 M) hi hb
    ⟨rfl, rfl, fun j _ h => absurd h (Nat.not_lt_zero _), Fr.new⟩ (fun i hi acc M hl hm ⟨p1, p2, p3, p4⟩ => by
    obtain ⟨ds1, e1, e2⟩ := hs xs[i] (List.getElem_mem hi) M
    refine ⟨ds1, M, _, _, e1, e2, (AS.new_ne (by omega)).trans hm, ?_, by show M.nx + 1 = _; omega, fun j h1 h2 => ?_, ⟨Nat.le_succ_of_le p4.1, fun n h1 h2 => ?_⟩⟩
    · rw [List.range_succ, List.map_append, p1, p2]; rfl
    · by_cases hj : j = i
      · subst hj
        rw [AS.set_ne (by omega), ← p2]
        exact AS.new_same
      · rw [AS.set_ne (by omega), AS.new_ne (by omega)]
        exact p3 j h1 (by omega)
    · rw [AS.set_ne (by omega), AS.new_ne (by have := p4.1; omega)]
      exact p4.2 n h1 h2)
  refine ⟨M', e, ?_, fun j h => p3 j h h, p2, p4⟩
  rw [p1] at m
  exact m
theorem lstart_ev {M : AS} {a : Nat} {s : Sch} (hS : SchL M a s) (S : s.Ok) : Res (A__law_start [.ref a] M) fun d M' => ∃ A : CA, d = .ref A.c ∧ CoreAt M' A (begS s) ∧ (∀ n, A.own n → M.nx ≤ n) ∧ Fr No M M' := by
  have ht := sch_th hS.1
  have hm := hS.1
  unfold SchAt at hm
  have hl : (s.th.map codeD).length = s.th.length := List.length_map _
  obtain ⟨M1, e1, m1, r1, n1, f1⟩ := rows_new (M := M) (M1 := M) (ds := [some (.ref a), none]) (vs := [1]) (g := gN 1) (f := fLst (fCons (fC (.int 0)) (fCons (fC (.int 0)) fNil))) (fi := fItSeq (fProp 0 A_Scheme_threads (fVar 0))) (xs := s.th.map codeD) (fun _ => [.int 0, .int 0])
    (by clear hl; walk_at "ev") (by have := S.n3; omega) (fun x _ M' => ⟨_, rfl, by clear hl ht hm; walk_at "ev"⟩)
  rw [hl] at m1 r1 n1
  let M2 := M1.new (.lst [.int 0, .int 0, .int 0])
  let M3 := M2.new (.lst [])
  let M4 := M3.new (.lst [.ref M.nx, .int 0, .non, .ref M1.nx, .int 0, .ref (M1.nx + 1), .bl false, .bl true, .bl false])
  have l0 : ∀ n, n < M1.nx → M4.mem n = M1.mem n := fun n h => by
    show ((M3.new _).mem n) = _
    rw [AS.new_ne (by show n ≠ M1.nx + 1 + 1; omega), AS.new_ne (by show n ≠ M1.nx + 1; omega), AS.new_ne (by omega)]
  have C : CoreAt M4 ⟨M1.nx + 2, M.nx, M1.nx, M1.nx + 1, (List.range s.th.length).map fun j => M.nx + 1 + j, none⟩ (begS s) := by
    refine core_made (List.length_map _) AS.new_same ?_ (fun j hj => ?_) ?_ ?_ trivial (by omega) (by omega) (by omega) (by show _ < M1.nx + 1 + 1 + 1; omega) (fun j h => by cases h)
    · rw [l0 _ (by omega)]; exact m1
    · rw [l0 _ (by omega)]
      have q := r1 j hj
      rw [q]
      have hg : (begS s).th.getD j (0, 0) = (0, 0) := by
        show (s.th.map fun _ => ((0 : Nat), (0 : Int))).getD j (0, 0) = _
        rw [gD_get (by rw [List.length_map]; exact hj), List.getElem_map]
      rw [hg]; rfl
    · show (M3.new _).mem M1.nx = _
      rw [AS.new_ne (by show M1.nx ≠ M1.nx + 1 + 1; omega), AS.new_ne (by show M1.nx ≠ M1.nx + 1; omega)]
      exact AS.new_same
    · show (M3.new _).mem (M1.nx + 1) = _
      rw [AS.new_ne (by show M1.nx + 1 ≠ M1.nx + 1 + 1; omega)]
      exact AS.new_same
  refine ⟨.ref (M1.nx + 2), M4, ?_, _, rfl, C, fun n o => ?_, f1.trans (Fr.trans .new (Fr.trans .new .new))⟩
  · unfold A__law_start
    generalize fLc (fItSeq (fProp 0 A_Scheme_threads (fVar 0))) (gN 1) tYesA (fLst (fCons (fC (.int 0)) (fCons (fC (.int 0)) fNil))) [1] = L at e1 ⊢
    have e1 : L [some (.ref a), none] M = some (.ref M.nx, M1) := e1
    clear C l0 hl ht hm m1 r1 n1 f1
    walk_at "ev"
    rfl
  · rcases o with o | o | o | o | o | o
    · have o : n = M1.nx + 2 := o; omega
    · have o : n = M.nx := o; omega
    · have o : n = M1.nx := o; omega
    · have o : n = M1.nx + 1 := o; omega
    · obtain ⟨m, _, rfl⟩ := List.mem_map.mp o
      omega
    · cases o
theorem lcore_ev {M : AS} {x : St} (hb : x.th.length ≤ 3) : Res (A__law_core [x.d] M) fun d M' => ∃ A : CA, d = .ref A.c ∧ CoreAt M' A x ∧ (∀ n, A.own n → M.nx ≤ n) ∧ Fr No M M' := by
  obtain ⟨th, cur, hd, ce, clk, ws, lost, heard, pend⟩ := x
  have hb : th.length ≤ 3 := hb
  unfold A__law_core
  refine fnE ?_
  generalize hox : St.d ⟨th, cur, hd, ce, clk, ws, lost, heard, pend⟩ = ox
  have hox2 : ox = .tup [.tup (th.map rowD), .int cur, hdD hd, intsD ce, .int clk, intsD ws, .bl lost, .bl heard, .bl pend] := hox.symm
  clear hox
  have a0 : atI [D.tup (th.map rowD), .int cur, hdD hd, intsD ce, .int clk, intsD ws, .bl lost, .bl heard, .bl pend] 2 = some (hdD hd) := rfl
  refine seqE (Q := fun ds1 M1 => ∃ i, ds1 = [some ox, some (innD i), none, none, none] ∧ InnAt M1 i hd ∧ (∀ j, i = some j → M.nx ≤ j ∧ j < M1.nx) ∧ Fr No M M1) ?_ ?_
  · cases hd with
    | none =>
      refine ⟨_, M, ?_, none, rfl, trivial, (fun j h => by cases h), .refl⟩
      subst hox2
      simp only [hdD, innD]
      walk_at "ev"
    | some p =>
      refine ⟨_, M.new (.lst [.int p.1, .int p.2]), ?_, some M.nx, rfl, AS.new_same, (fun j h => by cases h; exact ⟨Nat.le_refl _, Nat.lt_succ_self _⟩), .new⟩
      subst hox2
      simp only [hdD, rowD, innD] at *
      walk_at "ev"
  rintro _ M1 ⟨i, rfl, hinn, hil, f0⟩
  have hl : (th.map rowD).length = th.length := List.length_map _
  obtain ⟨M2, e2, m2, r2, n2, f2⟩ := rows_new (M := M1) (M1 := M1) (ds := [some ox, some (innD i), none, none, none]) (vs := [3]) (g := gN 3) (f := fCB oList (fCons (fVar 3) fNil)) (fi := fItSeq (fBin oIx (fVar 0) (fC (.int 0)))) (xs := th.map rowD) (fun d => match d with | .tup xs => xs | _ => [])
    (by subst hox2; clear hl; walk_at "ev") (by omega) (fun x hx M' => by
      obtain ⟨p, _, rfl⟩ := List.mem_map.mp hx
      exact ⟨_, rfl, rfl⟩)
  rw [hl] at m2 n2
  refine seqE (Q := fun ds1 M3 => ds1 = [some ox, some (innD i), some (.ref M1.nx), none, none] ∧ M2 = M3) ⟨_, _, ?_, rfl, rfl⟩ ?_
  · generalize fLc (fItSeq (fBin oIx (fVar 0) (fC (.int 0)))) (gN 3) tYesA (fCB oList (fCons (fVar 3) fNil)) [3] = L at e2 ⊢
    clear hl m2 r2 n2 hox2
    walk_at "ev"
  rintro _ _ ⟨rfl, rfl⟩
  have hi2 : InnAt M2 i hd := hinn.of fun j hj => f2.2 j (hil j hj).2 id
  let M3 := M2.new (.lst (ce.map D.int))
  let M4 := M3.new (.lst (ws.map D.int))
  let M5 := M4.new (.lst [.ref M1.nx, .int cur, innD i, .ref M2.nx, .int clk, .ref (M2.nx + 1)])
  refine seqE (Q := fun ds1 M' => ds1 = [some ox, some (innD i), some (.ref M1.nx), none, some (.ref (M2.nx + 2))] ∧ M5 = M') ⟨_, _, ?_, rfl, rfl⟩ ?_
  · clear hl m2 r2 n2
    subst hox2
    unfold intsD
    walk_at "ev"
    rfl
  rintro _ _ ⟨rfl, rfl⟩
  let M6 := M5.new (.lst [.bl lost, .bl heard, .bl pend])
  let M7 := M6.new (.lst [.ref M1.nx, .int cur, innD i, .ref M2.nx, .int clk, .ref (M2.nx + 1), .bl lost, .bl heard, .bl pend])
  have l0 : ∀ n, n < M2.nx → M7.mem n = M2.mem n := fun n h => by
    show ((M6.new _).mem n) = _
    rw [AS.new_ne (by show n ≠ M2.nx + 1 + 1 + 1 + 1; omega), AS.new_ne (by show n ≠ M2.nx + 1 + 1 + 1; omega), AS.new_ne (by show n ≠ M2.nx + 1 + 1; omega), AS.new_ne (by show n ≠ M2.nx + 1; omega), AS.new_ne (by omega)]
  have C : CoreAt M7 ⟨M2.nx + 4, M1.nx, M2.nx, M2.nx + 1, (List.range th.length).map fun j => M1.nx + 1 + j, i⟩ ⟨th, cur, hd, ce, clk, ws, lost, heard, pend⟩ := by
    refine core_made rfl AS.new_same ?_ (fun j hj => ?_) ?_ ?_ (hi2.of fun j hj => l0 j (Nat.lt_of_lt_of_le (hil j hj).2 f2.1)) (by omega) (by omega) (by omega) (by show _ < M2.nx + 1 + 1 + 1 + 1 + 1; omega) (fun j h => (hil j h).2)
    · rw [l0 _ (by omega)]; exact m2
    · rw [l0 _ (by have : j < th.length := hj; omega)]
      have q := r2 j (by rw [hl]; exact hj)
      rw [q, List.getElem_map]
      show _ = some (Cell.lst [.int (th.getD j (0, 0)).1, .int (th.getD j (0, 0)).2])
      rw [gD_get hj]; rfl
    · show (M6.new _).mem M2.nx = _
      rw [AS.new_ne (by show M2.nx ≠ M2.nx + 1 + 1 + 1 + 1; omega), AS.new_ne (by show M2.nx ≠ M2.nx + 1 + 1 + 1; omega), AS.new_ne (by show M2.nx ≠ M2.nx + 1 + 1; omega), AS.new_ne (by show M2.nx ≠ M2.nx + 1; omega)]
      exact AS.new_same
    · show (M6.new _).mem (M2.nx + 1) = _
      rw [AS.new_ne (by show M2.nx + 1 ≠ M2.nx + 1 + 1 + 1 + 1; omega), AS.new_ne (by show M2.nx + 1 ≠ M2.nx + 1 + 1 + 1; omega), AS.new_ne (by show M2.nx + 1 ≠ M2.nx + 1 + 1; omega)]
      exact AS.new_same
  refine retE ⟨.ref (M2.nx + 4), M7, ?_, _, rfl, C, fun n o => ?_, f0.trans (f2.trans (Fr.trans .new (Fr.trans .new (Fr.trans .new (Fr.trans .new .new)))))⟩
  · have m5 : M6.mem (M2.nx + 2) = some (.lst [.ref M1.nx, .int cur, innD i, .ref M2.nx, .int clk, .ref (M2.nx + 1)]) := by
      show (M5.new _).mem (M2.nx + 2) = _
      rw [AS.new_ne (by show M2.nx + 2 ≠ M2.nx + 1 + 1 + 1; omega)]
      exact AS.new_same
    have m6 : M6.mem M5.nx = some (.lst [.bl lost, .bl heard, .bl pend]) := AS.new_same
    have e6 : M5.new (.lst [.bl lost, .bl heard, .bl pend]) = M6 := rfl
    have e7 : M6.new (.lst [.ref M1.nx, .int cur, innD i, .ref M2.nx, .int clk, .ref (M2.nx + 1), .bl lost, .bl heard, .bl pend]) = M7 := rfl
    have e8 : M6.nx = M2.nx + 4 := rfl
    subst hox2
    clear_value M7 M6 M5
    clear C l0 hl m2 r2 n2 e2 f2 hi2
    walk_at "ev"
  · have n1 := f2.1
    have n0 := f0.1
    rcases o with o | o | o | o | o | o
    · have o : n = M2.nx + 4 := o; omega
    · have o : n = M1.nx := o; omega
    · have o : n = M2.nx := o; omega
    · have o : n = M2.nx + 1 := o; omega
    · obtain ⟨m, _, rfl⟩ := List.mem_map.mp o
      omega
    · exact (hil n o).1
theorem lnext_ev {M : AS} {A : CA} {x : St} {s : Sch} {a : Nat} (hS : SchL M a s) (C : CoreAt M A x) (S : s.Ok) (hx : x.Ok s) : Res (A__law_next_one [.ref a, .ref A.c] M) fun d M' => d = upD s x ∧ Fr No M M' := by
  have hb : x.th.length ≤ 3 := by rw [hx.len]; exact S.n3
  obtain ⟨_, M1, e1, rfl, f1⟩ := lstate_ev C hb
  obtain ⟨_, M2, e2, B, rfl, C2, ho2, f2⟩ := lcore_ev (M := M1) hb
  have hS2 := (hS.fr f1 id).fr f2 id
  have hnB : ¬ B.own a := fun o => by have := ho2 a o; have := hS.2; have := f1.1; omega
  obtain ⟨_, M3, e3, rfl, B3, hc3, C3, ho3, f3⟩ := lmeet_ev (w := ⟨false, false, false, none, 0, 0⟩) hS2 hnB C2 hx
  have hy := meet_ok (w := ⟨false, false, false, none, 0, 0⟩) S hx
  have hS3 := hS2.fr f3 hnB
  have e3 : A__law_meet [.ref a, .ref B.c, c_QUIET] M2 = some (.non, M3) := e3
  have fin : Fr No M M3 := f1.trans ⟨Nat.le_trans f2.1 f3.1, fun n h1 h2 => (f3.2 n (Nat.lt_of_lt_of_le h1 f2.1) fun o => by have := ho2 n o; omega).trans (f2.2 n h1 h2)⟩
  unfold upD
  simp only []
  generalize meetS s x ⟨false, false, false, none, 0, 0⟩ = y at C3 hy ⊢
  have hth : A_Scheme_threads [.ref a] M3 = some (.tup (s.th.map codeD), M3) := sch_th hS3.1
  have hha : A_Scheme_handler [.ref a] M3 = some (codeD s.ha, M3) := sch_ha hS3.1
  have hsc := hS3.1
  unfold SchAt at hsc
  have q1 : atI ((codeS s y).map insD) ((rowS y).1 : Int) = some (insD (insS s y)) := atI_map (.wset, 0) (code_len hy)
  have hcore := C3.core
  have hrows := C3.rows
  have hinn := C3.inn
  rw [hc3] at hcore
  have hcur := hy.cur
  unfold A__law_next_one
  refine fnE ?_
  refine seqE (Q := fun ds1 M' => ds1 = [some (.ref a), some (.ref A.c), some (.ref B.c)] ∧ M2 = M') ⟨_, _, ?_, rfl, rfl⟩ ?_
  · clear C C2 C3 hS hS2 hS3 fin f1 f2 f3 hy hx S hth hha hsc q1 hcore hrows hinn e3
    walk_at "ev"
  rintro _ _ ⟨rfl, rfl⟩
  refine seqE (Q := fun ds1 M' => ds1 = [some (.ref a), some (.ref A.c), some (.ref B.c)] ∧ M3 = M') ⟨_, _, ?_, rfl, rfl⟩ ?_
  · clear C C2 C3 hS hS2 hS3 fin f1 f2 f3 hy hx S hth hha hsc q1 hcore hrows hinn e1 e2
    simp only [fDrop, fCall, fCons, fVar, fC, fNil, List.getElem?_cons_zero, List.getElem?_cons_succ, e3]
  rintro _ _ ⟨rfl, rfl⟩
  have e2 := atI_map (f := codeD) (i := y.cur) (l := s.th) [] (by have := hy.len; omega)
  unfold codeS at q1
  unfold rowS at q1
  cases hh : y.hd with
  | some p =>
    rw [hh] at hinn q1
    cases hi : B3.i with
    | none => rw [hi] at hinn; exact hinn.elim
    | some i =>
      rw [hi] at hinn hcore
      have hinn : M3.mem i = some (.lst [.int p.1, .int p.2]) := hinn
      simp only [innD] at hcore
      simp only [] at q1
      refine ⟨_, M3, ?_, rfl, fin⟩
      clear C C2 C3 hS hS2 hS3 fin f1 f2 f3 hy hx S hrows e1 e2 e3
      unfold codeD at hsc
      unfold resOf
      walk_at "ev"
  | none =>
    rw [hh] at hinn q1
    cases hi : B3.i with
    | some i => rw [hi] at hinn; exact hinn.elim
    | none =>
      rw [hi] at hinn hcore
      simp only [innD] at hcore
      simp only [] at q1
      have hj : y.cur < B3.rs.length := by rw [C3.len]; exact hcur
      have hrow := C3.row y.cur _ (List.getElem?_eq_getElem hj)
      have q2 : atI (B3.rs.map D.ref) (y.cur : Int) = some (.ref B3.rs[y.cur]) := atI_nat (by rw [List.getElem?_map, List.getElem?_eq_getElem hj]; rfl)
      generalize B3.rs[y.cur] = row at hrow q2
      refine ⟨_, M3, ?_, rfl, fin⟩
      clear C C2 C3 hS hS2 hS3 fin f1 f2 f3 hy hx S e1 e3 hj
      replace e2 : atI (s.th.map codeD) (y.cur : Int) = some (.tup ((s.th.getD y.cur []).map insD)) := e2
      unfold resOf
      walk_at "ev"
end SM
namespace SM
open PySem L2 AL
local macro_rules | `(tactic| walk_at "ev") => `(tactic| simp only [fnA, fSeq, fNx, fIfS, fTst, fTru, truD, fBin, oAdd, oI0, oI, oLt, oLe, oGt, oGe, oSub, oMul, oDiv, oMod, oPow, fVar, fC, fCB, fCons, fNil, fCall, oLen, oInt, oMax2, oMin2, seqOf, lstOf, mutOf, fRet, fRetN, fAsg, gN, fAnd, fOr, fNot, fAndV, fOrV, fNotV, fIf, fTup, fLst, oIx, fDrop, fPar, fChain, oIsN, D.isNon, fFor, fRng1, fuelOf, gSubD, rlim,
  oIsi, oCatL, fApp, fPopAt, oTuple, oList, oEqO, tyD, fIsC, fMake, fMeth, fFldS, fFldAug, fldPut, gFldD, isCls, lkS1, lkS2, lkS3, puts1, puts2, puts3, puts4, puts5, lkM, A_Machine_steps, A_Machine_state, kits, bools, oAll, fItSeq, id, List.all_cons, List.all_nil, c_QUIET, fSl, fNoP, fPart, gTupD, gsCons, gsNil, fProp, fFld, oCatT, eqS, eqI, cut9_3, cut9_37, cut9_13, cut6_4, cut3_2, lkT, lkH, lkK, A_Scheme_threads, A_Scheme_handler, A_Scheme_kinds, c_MOST_WORDS, shW, wtab, ws_eq, beq_self_eq_true, at_2, at_3, at_6, at_9, ix_2, ix_3, ix_6, ix_9, List.mem_singleton,
  Bool.or_true, Bool.or_false, Bool.or_self, Bool.true_or, Bool.false_or, Bool.true_and, Bool.and_true, Bool.false_and, Bool.and_false, List.map_append, List.map_cons, List.map_nil, List.length_cons, List.length_nil, List.replicate, List.cons_append, List.nil_append, List.append_nil, List.getElem?_cons_zero, List.getElem?_cons_succ, List.set_cons_zero, List.set_cons_succ, Nat.reduceAdd, Nat.reduceSub, Nat.reduceLeDiff, Nat.reduceLT, if_true, if_false, Bool.not_true, Bool.not_false, Nat.sub_zero, Nat.sub_self, big, Int.reduceLT, Int.reduceLE, Int.reduceEq, Nat.reduceEqDiff, Int.reduceAdd, Int.reduceSub, Int.reduceMul, Int.reduceMod, Int.reduceDiv, and_self, decide_true, decide_false, Bool.false_eq_true, AS.set_same, AS.set_set, *])
/-- the draw's list at d over the script at sc; K draws at least are left -/
structure Drw (M : AS) (d sc : Nat) (ns : List Int) (K : Nat) : Prop where
  ex : ∃ by_ c : Int, 0 ≤ by_ ∧ 0 ≤ c ∧ c + K ≤ 100000 ∧ DrA M d sc by_ c
  scr : M.mem sc = some (.fro (ns.map D.int))
  dl : d < M.nx
  sl : sc < M.nx
theorem Drw.ne {M : AS} {d sc : Nat} {ns : List Int} {K : Nat} (h : Drw M d sc ns K) : sc ≠ d := fun e => by
  obtain ⟨b, c, _, _, _, h1⟩ := h.ex
  unfold DrA at h1
  rw [← e, h.scr] at h1
  cases h1
theorem Drw.fr {M M' : AS} {d sc : Nat} {ns : List Int} {K : Nat} {S : Nat → Prop} (h : Drw M d sc ns K) (f : Fr S M M') (h1 : ¬ S d) (h2 : ¬ S sc) : Drw M' d sc ns K where
  ex := by
    obtain ⟨b, c, q1, q2, q3, q4⟩ := h.ex
    exact ⟨b, c, q1, q2, q3, f.at q4 h.dl h1⟩
  scr := f.at h.scr h.sl h2
  dl := Nat.lt_of_lt_of_le h.dl f.1
  sl := Nat.lt_of_lt_of_le h.sl f.1
theorem Drw.mono {M : AS} {d sc : Nat} {ns : List Int} {K L : Nat} (h : Drw M d sc ns K) (hl : L ≤ K) : Drw M d sc ns L where
  ex := by
    obtain ⟨b, c, q1, q2, q3, q4⟩ := h.ex
    exact ⟨b, c, q1, q2, by omega, q4⟩
  scr := h.scr
  dl := h.dl
  sl := h.sl
theorem next_dr {M : AS} {d sc : Nat} {ns : List Int} {K : Nat} (h : Drw M d sc ns (K + 1)) {b : Int} (hb : 0 < b) :
    ∃ (r : Nat) (M' : AS), A__law_next [.ref d, .int b] M = some (.int r, M') ∧ (r : Int) < b ∧ Drw M' d sc ns K ∧ Fr (· = d) M M' := by
  obtain ⟨by_, c, q1, q2, q3, q4⟩ := h.ex
  obtain ⟨r, e⟩ := next_ev q4 h.scr h.ne q1 q2 (by omega) hb
  have n0 := Int.emod_nonneg r (by omega : b ≠ 0)
  have n1 := Int.emod_lt_of_pos r hb
  obtain ⟨m, hm⟩ : ∃ m : Nat, r % b = (m : Int) := ⟨(r % b).toNat, by omega⟩
  rw [hm] at e n1
  refine ⟨m, _, e, n1, ⟨⟨by_, c + 1, q1, by omega, by omega, AS.set_same⟩, (AS.set_ne h.ne).trans h.scr, h.dl, h.sl⟩, .set fun _ => rfl⟩
def picks : List Wo := [.wset, .wload, .wadd, .wsave, .wfirst, .wjump, .wshow, .wshow, .wtime, .wtake, .wcount, .wspilt, .wcall, .wsave, .wload, .wshut, .wopen, .wshow]
theorem inLA {M : AS} {o : Wo} : oIn false (.str o.s) (.tup [.str (Str.ofString "load"), .str (Str.ofString "add"), .str (Str.ofString "save"), .str (Str.ofString "first")]) M = some (.bl (match o with | .wload | .wadd | .wsave | .wfirst => true | _ => false), M) := by
  cases o <;> rfl
theorem instr_ev {M : AS} {d sc : Nat} {ns : List Int} {K many : Nat} (h : Drw M d sc ns (K + 3)) (hm : 0 < many) :
    ∃ (i : Ins) (M' : AS), A__law_instruction [.ref d, .int many] M = some (insD i, M') ∧ okN many i ∧ Drw M' d sc ns K ∧ Fr (· = d) M M' := by
  have f0 : Fr No M (M.new (.lst (picks.map fun o => D.str o.s))) := .new
  have h0 := h.fr f0 id id
  have m0 : (M.new (.lst (picks.map fun o => D.str o.s))).mem M.nx = some (.lst (picks.map fun o => D.str o.s)) := AS.new_same
  obtain ⟨r, M1, e1, hr, h1, f1⟩ := next_dr (K := K + 2) h0 (b := 18) (by decide)
  have m1 := f1.at m0 (Nat.lt_succ_self _) (Nat.ne_of_gt h.dl)
  have e2 : atI (picks.map fun o => D.str o.s) (r : Int) = some (.str (picks.getD r .wset).s) := atI_map (f := fun o : Wo => D.str o.s) .wset (by show r < 18; omega)
  generalize picks.getD r .wset = o at e2
  have hp : A__law_pick [.ref d, .ref M.nx] (M.new (.lst (picks.map fun o => D.str o.s))) = some (.str o.s, M1) := by
    have hl : ((picks.map fun o => D.str o.s).length : Int) = 18 := rfl
    unfold A__law_pick
    clear h h0 h1 f1 f0 hr
    generalize (picks.map fun o => D.str o.s) = ps at *
    walk_at "ev"
  have f2 : Fr (· = d) M M1 := f0.no.trans f1
  suffices H : ∃ (n : Nat) (M' : AS), A__law_instruction [.ref d, .int many] M = some (.tup [.str o.s, .int n], M') ∧ okN many (o, n) ∧ Drw M' d sc ns K ∧ Fr (· = d) M M' by
    obtain ⟨n, M', q1, q2, q3, q4⟩ := H
    exact ⟨(o, n), M', q1, q2, q3, q4⟩
  have hst : ∀ r : Option (D × AS), resOf ((fSeq (fIfS (fTst (fBin (oIn false) (fVar 2) (fTup (fCons (fC (.str "load")) (fCons (fC (.str "add")) (fCons (fC (.str "save")) (fCons (fC (.str "first")) fNil))))))) (fRet (fTup (fCons (fVar 2) (fCons (fBin oAdd (fCall A__law_next (fCons (fVar 0) (fCons (fC (.int 2)) fNil))) (fCall A__law_next (fCons (fVar 0) (fCons (fC (.int 2)) fNil)))) fNil)))) fNx)
    (fSeq
    (fIfS (fTst (fBin (oEqD false) (fVar 2) (fC (.str "set")))) (fRet (fTup (fCons (fVar 2) (fCons (fCall A__law_next (fCons (fVar 0) (fCons (fC (.int 3)) fNil))) fNil)))) fNx)
    (fRet (fTup (fCons (fVar 2) (fCons (fIf (fTst (fBin (oEqD false) (fVar 2) (fC (.str "jump")))) (fCall A__law_next (fCons (fVar 0) (fCons (fVar 1) fNil))) (fC (.int 0))) fNil)))))) [some (.ref d), some (.int many), some (.str o.s)] M1) = r → A__law_instruction [.ref d, .int many] M = r := fun r hr => by
    unfold A__law_instruction
    rw [fnA_res]
    refine seqR ?_ hr
    have hl : fLst (fCons (fC (.str "set")) (fCons (fC (.str "load")) (fCons (fC (.str "add")) (fCons (fC (.str "save")) (fCons (fC (.str "first")) (fCons (fC (.str "jump")) (fCons (fC (.str "show")) (fCons (fC (.str "show")) (fCons (fC (.str "time")) (fCons (fC (.str "take")) (fCons (fC (.str "count")) (fCons (fC (.str "spilt")) (fCons (fC (.str "call")) (fCons (fC (.str "save")) (fCons (fC (.str "load")) (fCons (fC (.str "shut")) (fCons (fC (.str "open")) (fCons (fC (.str "show")) fNil)))))))))))))))))) [some (.ref d), some (.int many), none] M = some (.ref M.nx, M.new (.lst (picks.map fun o => D.str o.s))) := rfl
    show fAsg (fCall A__law_pick (fCons (fVar 0) (fCons _ fNil))) (gN 2) [some (.ref d), some (.int many), none] M = _
    simp only [fAsg, fCall, fCons, fVar, fNil, hl, hp, gN, List.getElem?_cons_zero, List.set_cons_zero, List.set_cons_succ]
  have hin := fun M => @inLA M o
  have two : ∃ (n1 n2 : Nat) (M2 M3 : AS), A__law_next [.ref d, .int 2] M1 = some (.int n1, M2) ∧ A__law_next [.ref d, .int 2] M2 = some (.int n2, M3) ∧ n1 + n2 ≤ 2 ∧ Drw M3 d sc ns K ∧ Fr (· = d) M M3 := by
    obtain ⟨n1, M2, q1, q2, q3, q4⟩ := next_dr (K := K + 1) h1 (b := 2) (by decide)
    obtain ⟨n2, M3, p1, p2, p3, p4⟩ := next_dr (K := K) q3 (b := 2) (by decide)
    exact ⟨n1, n2, M2, M3, q1, p1, by omega, p3, f2.trans (q4.trans p4)⟩
  have one : ∀ b : Int, 0 < b → ∃ (n : Nat) (M2 : AS), A__law_next [.ref d, .int b] M1 = some (.int n, M2) ∧ (n : Int) < b ∧ Drw M2 d sc ns K ∧ Fr (· = d) M M2 := fun b hb => by
    obtain ⟨n, M2, q1, q2, q3, q4⟩ := next_dr (K := K + 1) h1 hb
    exact ⟨n, M2, q1, q2, q3.mono (by omega), f2.trans q4⟩
  have non : Drw M1 d sc ns K := h1.mono (by omega)
  clear h h0 h1 f1 f0 hr e1 e2 m0 m1 hp
  cases o
  case wset =>
    obtain ⟨n, M2, q1, q2, q3, q4⟩ := one 3 (by decide)
    refine ⟨n, M2, hst _ ?_, by show n ≤ 2; omega, q3, q4⟩
    clear hst two one non q3 q4 f2
    unfold resOf
    simp only [ws_eq] at *
    walk_at "ev"
  case wjump =>
    obtain ⟨n, M2, q1, q2, q3, q4⟩ := one many (by omega)
    refine ⟨n, M2, hst _ ?_, by show n < many; omega, q3, q4⟩
    clear hst two one non q3 q4 f2
    unfold resOf
    simp only [ws_eq] at *
    walk_at "ev"
  case wload =>
    obtain ⟨n1, n2, M2, M3, q1, q2, q3, q4, q5⟩ := two
    refine ⟨n1 + n2, M3, hst _ ?_, q3, q4, q5⟩
    clear hst one non q4 q5 f2 q3
    unfold resOf
    simp only [ws_eq] at *
    walk_at "ev"
    rfl
  case wadd =>
    obtain ⟨n1, n2, M2, M3, q1, q2, q3, q4, q5⟩ := two
    refine ⟨n1 + n2, M3, hst _ ?_, q3, q4, q5⟩
    clear hst one non q4 q5 f2 q3
    unfold resOf
    simp only [ws_eq] at *
    walk_at "ev"
    rfl
  case wsave =>
    obtain ⟨n1, n2, M2, M3, q1, q2, q3, q4, q5⟩ := two
    refine ⟨n1 + n2, M3, hst _ ?_, q3, q4, q5⟩
    clear hst one non q4 q5 f2 q3
    unfold resOf
    simp only [ws_eq] at *
    walk_at "ev"
    rfl
  case wfirst =>
    obtain ⟨n1, n2, M2, M3, q1, q2, q3, q4, q5⟩ := two
    refine ⟨n1 + n2, M3, hst _ ?_, q3, q4, q5⟩
    clear hst one non q4 q5 f2 q3
    unfold resOf
    simp only [ws_eq] at *
    walk_at "ev"
    rfl
  all_goals
    refine ⟨0, M1, hst _ ?_, rfl, non, f2⟩
    clear hst two one non f2
    unfold resOf
    simp only [ws_eq] at *
    walk_at "ev"
    try rfl
theorem tup_of {f : AE} {ds : DS} {M M1 : AS} {n : Nat} {xs : List D} (e : f ds M = some (.ref n, M1)) (hm : M1.mem n = some (.lst xs)) : fCB oTuple (fCons f fNil) ds M = some (.tup xs, M1) := by
  simp only [fCB, fCons, fNil, e, oTuple, seqOf, lstOf, hm]
theorem code_ev {M : AS} {d sc : Nat} {ns : List Int} {K lo hi : Nat} (h : Drw M d sc ns (K + 16)) (hlh : lo ≤ hi) (h5 : hi ≤ 5) :
    ∃ (c : List Ins) (M' : AS), A__law_code [.ref d, .int lo, .int hi] M = some (codeD c, M') ∧ OkC lo hi c ∧ Drw M' d sc ns K ∧ Fr (· = d) M M' := by
  obtain ⟨r, M1, e1, hr, h1, f1⟩ := next_dr (K := K + 15) h (b := (hi : Int) - lo + 1) (by omega)
  obtain ⟨many, hmany⟩ : ∃ many : Nat, many = lo + r := ⟨_, rfl⟩
  have hcast : (lo : Int) + (r : Int) = (many : Int) := by omega
  have rl : -(2 ^ 62) ≤ (many : Int) ∧ (many : Int) < 2 ^ 62 := ⟨by omega, by omega⟩
  have hlen : (rngD 0 1 (many : Int).toNat).length = many := by unfold rngD; rw [List.length_map, List.length_range]; omega
  obtain ⟨acc, M2, e2, l2, m2, c, hc1, hc2, hc3, hc4, hc5, _⟩ := flc_inv (M1 := M1) (M := M1) (xs := rngD 0 1 (many : Int).toNat) (fi := fRng1 (fCons (fVar 3) fNil)) (g := gN 4) (f := fCall A__law_instruction (fCons (fVar 0) (fCons (fVar 3) fNil))) (vs := [4]) (ds := [some (.ref d), some (.int lo), some (.int hi), some (.int many), none])
    (fun i acc M => ∃ c : List Ins, c.length = i ∧ acc = c.map insD ∧ (∀ x ∈ c, okN many x) ∧ Drw M d sc ns (K + 3 * (many - i)) ∧ Fr (· = d) M1 M ∧ M1.nx < M.nx)
    (by clear h h1 f1 e1 hlen hmany; walk_at "ev") (by omega) ⟨[], rfl, rfl, (fun x hx => by cases hx), (h1.fr (S := No) .new id id).mono (by omega), .new, Nat.lt_succ_self _⟩
    (fun i hi acc M hl hm ⟨c, q1, q2, q3, q4, q5, hlt2⟩ => by
      rw [hlen] at hi
      obtain ⟨ins, M3, p1, p2, p3, p4⟩ := instr_ev (K := K + 3 * (many - (i + 1))) (q4.mono (by omega)) (by omega : 0 < many)
      have hne : M1.nx ≠ d := Nat.ne_of_gt h1.dl
      have hns : M1.nx ≠ sc := Nat.ne_of_gt h1.sl
      refine ⟨_, M, insD ins, M3, rfl, ?_, p4.at hm hlt2 hne, c ++ [ins], by rw [List.length_append]; exact congrArg (· + 1) q1, by rw [List.map_append, q2]; rfl, fun x hx => ?_, ?_, ?_⟩
      · clear q4 q5 p3 p4 hmany hcast
        simp only [wipeD]
        walk_at "ev"
      · rcases List.mem_append.mp hx with hx | hx
        · exact q3 x hx
        · rw [List.mem_singleton.mp hx]; exact p2
      · refine p3.fr (S := (· = M1.nx)) (.set fun _ => rfl) (Ne.symm hne) (Ne.symm hns)
      · exact ⟨⟨Nat.le_trans q5.1 p4.1, fun n z1 z2 => (AS.set_ne (Nat.ne_of_lt z1)).trans ((q5.trans p4).2 n z1 z2)⟩, Nat.lt_of_lt_of_le hlt2 p4.1⟩)
  rw [hlen] at l2 hc1 hc4
  have H : Res (A__law_code [.ref d, .int lo, .int hi] M) fun y M' => codeD c = y ∧ M2 = M' := by
    rw [hc2] at m2
    clear hc4 hc5 hc3 hlen l2
    unfold A__law_code
    refine fnE ?_
    refine seqE (Q := fun ds1 M' => ds1 = [some (.ref d), some (.int lo), some (.int hi), some (.int many), none] ∧ M1 = M') ⟨_, _, ?_, rfl, rfl⟩ ?_
    · clear h h1 f1 e2 m2 hmany
      walk_at "ev"
    rintro _ _ ⟨rfl, rfl⟩
    exact retE ⟨_, _, tup_of e2 m2, rfl, rfl⟩
  obtain ⟨_, _, e, rfl, rfl⟩ := H
  exact ⟨c, M2, e, ⟨by omega, by omega, fun x hx => by rw [hc1]; exact hc3 x hx⟩, hc4.mono (by omega), f1.trans hc5⟩
end SM
namespace SM
open PySem L2 AL
local macro_rules | `(tactic| walk_at "ev") => `(tactic| simp only [fnA, fSeq, fNx, fIfS, fTst, fTru, truD, fBin, oAdd, oI0, oI, oLt, oLe, oGt, oGe, oSub, oMul, oDiv, oMod, oPow, fVar, fC, fCB, fCons, fNil, fCall, oLen, oInt, oMax2, oMin2, seqOf, lstOf, mutOf, fRet, fRetN, fAsg, gN, fAnd, fOr, fNot, fAndV, fOrV, fNotV, fIf, fTup, fLst, oIx, fDrop, fPar, fChain, oIsN, D.isNon, fFor, fRng1, fuelOf, gSubD, rlim,
  oIsi, fInK, fIxK, oCatL, fApp, fPopAt, oTuple, oList, oEqO, tyD, fIsC, fMake, fMeth, fFldS, fFldAug, fldPut, gFldD, isCls, lkS1, lkS2, lkS3, puts1, puts2, puts3, puts4, puts5, lkM, A_Machine_steps, A_Machine_state, kits, bools, oAll, fItSeq, id, List.all_cons, List.all_nil, c_QUIET, fSl, fNoP, fPart, gTupD, gsCons, gsNil, fProp, fFld, oCatT, eqS, eqI, cut9_3, cut9_37, cut9_13, cut6_4, cut3_2, lkT, lkH, lkK, A_Scheme_threads, A_Scheme_handler, A_Scheme_kinds, c_MOST_WORDS, shW, wtab, ws_eq, beq_self_eq_true, at_2, at_3, at_6, at_9, ix_2, ix_3, ix_6, ix_9, List.mem_singleton,
  Bool.or_true, Bool.or_false, Bool.or_self, Bool.true_or, Bool.false_or, Bool.true_and, Bool.and_true, Bool.false_and, Bool.and_false, List.map_append, List.map_cons, List.map_nil, List.length_cons, List.length_nil, List.replicate, List.cons_append, List.nil_append, List.append_nil, List.getElem?_cons_zero, List.getElem?_cons_succ, List.set_cons_zero, List.set_cons_succ, Nat.reduceAdd, Nat.reduceSub, Nat.reduceLeDiff, Nat.reduceLT, if_true, if_false, Bool.not_true, Bool.not_false, Nat.sub_zero, Nat.sub_self, big, Int.reduceLT, Int.reduceLE, Int.reduceEq, Nat.reduceEqDiff, Int.reduceAdd, Int.reduceSub, Int.reduceMul, Int.reduceMod, Int.reduceDiv, and_self, decide_true, decide_false, Bool.false_eq_true, AS.set_same, AS.set_set, *])
theorem lcT_pure {xs : List D} {g : AG} {t : AT} {f : AE} {n0 : Nat} {ds : DS} (hb : xs.length ≤ 1000)
    (hs : ∀ x ∈ xs, ∀ M, ∃ ds1, g x ds M = some (ds1, M) ∧ t ds1 M = some (true, M) ∧ f ds1 M = some (x, M)) :
    ∀ (j i : Nat) (M : AS), i + j = xs.length → M.mem n0 = some (.lst (xs.take i)) → ∃ M', lcLoop (.fix xs) g t f n0 ds (j + 1) i M = some M' ∧ M'.mem n0 = some (.lst xs) ∧ M'.nx = M.nx ∧ ∀ n, n ≠ n0 → M'.mem n = M.mem n
  | 0, i, M, h, hm => by
    have e : xs[i]? = none := List.getElem?_eq_none (by omega)
    refine ⟨M, ?_, ?_, rfl, fun _ _ => rfl⟩
    · simp only [lcLoop, itAt, e]
    · rw [hm, List.take_of_length_le (by omega)]
  | j + 1, i, M, h, hm => by
    have hi : i < xs.length := by omega
    obtain ⟨ds1, e1, e2, e3⟩ := hs xs[i] (List.getElem_mem hi) M
    obtain ⟨M', e4, m4, n4, q4⟩ := lcT_pure hb hs j (i + 1) (M.set n0 (.lst (xs.take i ++ [xs[i]]))) (by omega) (by rw [AS.set_same, List.take_succ, List.getElem?_eq_getElem hi]; rfl)
    have e : xs[i]? = some xs[i] := List.getElem?_eq_getElem hi
    have lb : (xs.take i).length < big := by rw [List.length_take]; show _ < 100000; omega
    refine ⟨M', ?_, m4, n4, fun n hn => (q4 n hn).trans (AS.set_ne hn)⟩
    rw [lcLoop]
    simp only [itAt, e, e1, e2, e3, hm, if_pos lb, e4]
theorem flcT {xs : List D} {fi : AI} {g : AG} {t : AT} {f : AE} {vs : List Nat} {ds : DS} {M M1 : AS} (hi : fi ds M = some (.fix xs, M1)) (hb : xs.length ≤ 1000)
    (hs : ∀ x ∈ xs, ∀ M, ∃ ds1, g x (wipeD ds vs) M = some (ds1, M) ∧ t ds1 M = some (true, M) ∧ f ds1 M = some (x, M)) :
    ∃ M', fLc fi g t f vs ds M = some (.ref M1.nx, M') ∧ M'.mem M1.nx = some (.lst xs) ∧ Fr No M1 M' := by
  obtain ⟨M', e, m, n, q⟩ := lcT_pure (n0 := M1.nx) (ds := wipeD ds vs) (g := g) (t := t) (f := f) hb hs xs.length 0 (M1.new (.lst [])) (Nat.zero_add _) AS.new_same
  refine ⟨M', ?_, m, ⟨by rw [n]; exact Nat.le_succ _, fun k h1 _ => (q k (Nat.ne_of_lt h1)).trans (AS.new_ne (Nat.ne_of_lt h1))⟩⟩
  unfold fLc
  rw [hi]
  show (match lcLoop (.fix xs) g t f M1.nx (wipeD ds vs) (xs.length + 1) 0 (M1.new (.lst [])) with | some M2 => some (D.ref M1.nx, M2) | none => none) = _
  rw [e]
theorem bools_all : ∀ n : Nat, bools (List.replicate n (.bl true)) = some (List.replicate n true)
  | 0 => rfl
  | n + 1 => by rw [List.replicate_succ, bools, bools_all n]; rfl
theorem all_of {f : AE} {ds : DS} {M M1 : AS} {n k : Nat} (e : f ds M = some (.ref n, M1)) (hm : M1.mem n = some (.lst (List.replicate k (.bl true)))) : fCB (oAll true) (fCons f fNil) ds M = some (.bl true, M1) := by
  have : (List.replicate k true).all id = true := by
    rw [List.all_eq_true]
    intro x hx
    rw [List.eq_of_mem_replicate hx]; rfl
  simp only [fCB, fCons, fNil, e, oAll, lstOf, hm, bools_all, if_true, this]
theorem map_const_rep {xs : List D} {y : D} : xs.map (fun _ => y) = List.replicate xs.length y := List.map_const'
theorem greats {o : Wo} : t_GREATEST.lookup o.s = match o with | .wset | .wload | .wadd | .wsave | .wfirst => some (.int 2) | .wjump => none | _ => some (.int 0) := by
  cases o <;> rfl
theorem is_instr_ev {M : AS} {k : Nat} {i : Ins} (h : okN k i) : A_is_instruction [insD i, .int k] M = some (.bl true, M) := by
  obtain ⟨o, n⟩ := i
  have hg := @greats o
  have h22 : (((2 : Nat) : Int) == 2) = true := rfl
  unfold A_is_instruction insD
  cases o
  case wjump =>
    have h : n < k := h
    have q : A_is_number [.int n, .int 0, .int ((k : Int) - 1)] M = some (.bl true, M) := by
      rw [is_number_ev, decide_eq_true (by omega), decide_eq_true (by omega)]; rfl
    clear h
    walk_at "ev"
  case wset =>
    have q : A_is_number [.int n, .int 0, .int 2] M = some (.bl true, M) := by
      have h : n ≤ 2 := h
      rw [is_number_ev, decide_eq_true (by omega), decide_eq_true (by omega)]; rfl
    clear h
    simp only [ws_eq] at hg
    walk_at "ev"
  case wload =>
    have q : A_is_number [.int n, .int 0, .int 2] M = some (.bl true, M) := by
      have h : n ≤ 2 := h
      rw [is_number_ev, decide_eq_true (by omega), decide_eq_true (by omega)]; rfl
    clear h
    simp only [ws_eq] at hg
    walk_at "ev"
  case wadd =>
    have q : A_is_number [.int n, .int 0, .int 2] M = some (.bl true, M) := by
      have h : n ≤ 2 := h
      rw [is_number_ev, decide_eq_true (by omega), decide_eq_true (by omega)]; rfl
    clear h
    simp only [ws_eq] at hg
    walk_at "ev"
  case wsave =>
    have q : A_is_number [.int n, .int 0, .int 2] M = some (.bl true, M) := by
      have h : n ≤ 2 := h
      rw [is_number_ev, decide_eq_true (by omega), decide_eq_true (by omega)]; rfl
    clear h
    simp only [ws_eq] at hg
    walk_at "ev"
  case wfirst =>
    have q : A_is_number [.int n, .int 0, .int 2] M = some (.bl true, M) := by
      have h : n ≤ 2 := h
      rw [is_number_ev, decide_eq_true (by omega), decide_eq_true (by omega)]; rfl
    clear h
    simp only [ws_eq] at hg
    walk_at "ev"
  all_goals
    have h : n = 0 := h
    have q : A_is_number [.int n, .int 0, .int 0] M = some (.bl true, M) := by
      rw [is_number_ev, decide_eq_true (by omega), decide_eq_true (by omega)]; rfl
    clear h
    simp only [ws_eq] at hg
    walk_at "ev"
theorem is_code_ev {M : AS} {lo hi : Nat} {c : List Ins} (h : OkC lo hi c) (h5 : hi ≤ 5) : ∃ M', A_is_code [codeD c, .int lo, .int hi] M = some (.bl true, M') ∧ Fr No M M' := by
  have hl : (c.map insD).length = c.length := List.length_map _
  obtain ⟨M1, e1, m1, f1, _⟩ := flc_map (M := M) (M1 := M) (ds := [some (codeD c), some (.int lo), some (.int hi), none]) (vs := [3]) (g := gN 3) (f := fCall A_is_instruction (fCons (fVar 3) (fCons (fCB oLen (fCons (fVar 0) fNil)) fNil))) (fi := fItSeq (fVar 0)) (xs := c.map insD) (fun _ => .bl true)
    (by unfold codeD; clear hl; walk_at "ev") (by have := h.2.1; omega) (fun x hx M2 _ => by
      obtain ⟨i, hi, rfl⟩ := List.mem_map.mp hx
      have q := is_instr_ev (M := M2) (h.2.2 i hi)
      have hl2 : ((c.map insD).length : Int) = (c.length : Int) := by rw [hl]
      refine ⟨_, M2, rfl, ?_, .refl⟩
      clear hl h
      unfold codeD
      simp only [wipeD]
      walk_at "ev")
  rw [map_const_rep] at m1
  refine ⟨M1, ?_, f1⟩
  have d1 : decide ((lo : Int) ≤ (c.length : Int)) = true := decide_eq_true (by have := h.1; omega)
  have d2 : decide ((c.length : Int) ≤ (hi : Int)) = true := decide_eq_true (by have := h.2.1; omega)
  have hl2 : ((c.map insD).length : Int) = (c.length : Int) := by rw [hl]
  have H : Res (A_is_code [codeD c, .int lo, .int hi] M) fun y M' => .bl true = y ∧ M1 = M' := by
    clear h hl
    unfold A_is_code
    refine fnE ?_
    refine seqE (Q := fun ds1 M' => ds1 = [some (codeD c), some (.int lo), some (.int hi), none] ∧ M = M') ⟨_, _, ?_, rfl, rfl⟩ ?_
    · clear e1 m1 f1
      unfold codeD
      walk_at "ev"
    rintro _ _ ⟨rfl, rfl⟩
    exact retE ⟨_, _, all_of e1 m1, rfl, rfl⟩
  obtain ⟨_, _, e, rfl, rfl⟩ := H
  exact e
theorem are_threads_ev {M : AS} {s : Sch} (S : s.Ok) : ∃ M', A_are_threads [.tup (s.th.map codeD)] M = some (.bl true, M') ∧ Fr No M M' := by
  have hl : (s.th.map codeD).length = s.th.length := List.length_map _
  obtain ⟨M1, e1, m1, f1, _⟩ := flc_map (M := M) (M1 := M) (ds := [some (.tup (s.th.map codeD)), none]) (vs := [1]) (g := gN 1) (f := fCall A_is_code (fCons (fVar 1) (fCons (fC (.int 1)) (fCons (fC (.int 5)) fNil)))) (fi := fItSeq (fVar 0)) (xs := s.th.map codeD) (fun _ => .bl true)
    (by clear hl; walk_at "ev") (by have := S.n3; omega) (fun x hx M2 _ => by
      obtain ⟨c, hc, rfl⟩ := List.mem_map.mp hx
      obtain ⟨M3, q, f3⟩ := is_code_ev (M := M2) (S.th c hc) (by decide)
      have q : A_is_code [codeD c, .int 1, .int 5] M2 = some (.bl true, M3) := q
      refine ⟨_, M3, rfl, ?_, f3⟩
      clear hl f3 S
      simp only [wipeD]
      walk_at "ev")
  rw [map_const_rep] at m1
  refine ⟨M1, ?_, f1⟩
  have hl2 : ((s.th.map codeD).length : Int) = (s.th.length : Int) := by rw [hl]
  have d1 : decide ((1 : Int) ≤ (s.th.length : Int)) = true := decide_eq_true (by have := S.n1; omega)
  have d2 : decide ((s.th.length : Int) ≤ 3) = true := decide_eq_true (by have := S.n3; omega)
  have H : Res (A_are_threads [.tup (s.th.map codeD)] M) fun y M' => .bl true = y ∧ M1 = M' := by
    clear S hl
    unfold A_are_threads
    refine fnE ?_
    refine seqE (Q := fun ds1 M' => ds1 = [some (.tup (s.th.map codeD)), none] ∧ M = M') ⟨_, _, ?_, rfl, rfl⟩ ?_
    · clear e1 m1 f1
      walk_at "ev"
    rintro _ _ ⟨rfl, rfl⟩
    exact retE ⟨_, _, all_of e1 m1, rfl, rfl⟩
  obtain ⟨_, _, e, rfl, rfl⟩ := H
  exact e
theorem tst_of {f : AE} {ds : DS} {M M1 : AS} {b : Bool} (e : f ds M = some (.bl b, M1)) : fTst f ds M = some (b, M1) := by unfold fTst; rw [e]
theorem not_of {f : AT} {ds : DS} {M M1 : AS} {b : Bool} (e : f ds M = some (b, M1)) : fNot f ds M = some (!b, M1) := by unfold fNot; rw [e]
theorem or_ff {f g : AT} {ds : DS} {M M1 : AS} {r : Option (Bool × AS)} (e : f ds M = some (false, M1)) (e2 : g ds M1 = r) : fOr f g ds M = r := by unfold fOr; rw [e]; exact e2
theorem if_ff {t : AT} {f g : ASt} {ds : DS} {M M1 : AS} {r : Option (Flw × DS × AS)} (e : t ds M = some (false, M1)) (e2 : g ds M1 = r) : fIfS t f g ds M = r := by unfold fIfS; rw [e]; exact e2
theorem if_tt {t : AT} {f g : ASt} {ds : DS} {M M1 : AS} {r : Option (Flw × DS × AS)} (e : t ds M = some (true, M1)) (e2 : f ds M1 = r) : fIfS t f g ds M = r := by unfold fIfS; rw [e]; exact e2
theorem bin_of {op : Op2} {f g : AE} {ds : DS} {M M1 M2 : AS} {x y : D} {r : Option (D × AS)} (e1 : f ds M = some (x, M1)) (e2 : g ds M1 = some (y, M2)) (e3 : op x y M2 = r) : fBin op f g ds M = r := by
  unfold fBin
  rw [e1]
  simp only [e2, e3]
theorem kinds_ev {M : AS} : ∃ M', A_is_kinds_of [c_ALL_KINDS, c_ALL_KINDS] M = some (.bl true, M') ∧ Fr No M M' := by
  obtain ⟨M1, e1, m1, f1, _⟩ := flc_map (M := M) (M1 := M) (ds := [some c_ALL_KINDS, some c_ALL_KINDS, none]) (vs := [2]) (g := gN 2) (f := fCB (oIsi "str") (fCons (fVar 2) (fCons (fC (.con (.ty "str"))) fNil))) (fi := fItSeq (fVar 1)) (xs := [(.str "rings"), (.str "alarms"), (.str "ticks"), (.str "words"), (.str "results"), (.str "firsts")]) (fun _ => .bl true)
    rfl (by show 6 ≤ 1000; decide) (fun x hx M2 _ => by
      simp only [List.mem_cons, List.not_mem_nil, or_false] at hx
      rcases hx with rfl | rfl | rfl | rfl | rfl | rfl <;> exact ⟨_, _, rfl, rfl, .refl⟩)
  rw [map_const_rep] at m1
  obtain ⟨M2, e2, m2, f2⟩ := flcT (M := M1) (M1 := M1) (ds := [some c_ALL_KINDS, some c_ALL_KINDS, none]) (vs := [2]) (g := gN 2) (t := fTst (fBin (oIn false) (fVar 2) (fVar 1))) (f := fVar 2) (fi := fItSeq (fVar 0)) (xs := [(.str "rings"), (.str "alarms"), (.str "ticks"), (.str "words"), (.str "results"), (.str "firsts")])
    rfl (by show 6 ≤ 1000; decide) (fun x hx M2 => by
      simp only [List.mem_cons, List.not_mem_nil, or_false] at hx
      rcases hx with rfl | rfl | rfl | rfl | rfl | rfl <;> exact ⟨_, rfl, rfl, rfl⟩)
  refine ⟨M2, ?_, f1.trans f2⟩
  have H : Res (A_is_kinds_of [c_ALL_KINDS, c_ALL_KINDS] M) fun y M' => .bl true = y ∧ M2 = M' := by
    unfold A_is_kinds_of
    refine fnE ?_
    refine seqE (Q := fun ds1 M' => ds1 = [some c_ALL_KINDS, some c_ALL_KINDS, none] ∧ M1 = M') ⟨_, _, ?_, rfl, rfl⟩ ?_
    · have q := all_of e1 m1
      exact if_ff (or_ff rfl (not_of (tst_of q))) rfl
    rintro _ _ ⟨rfl, rfl⟩
    have q := tup_of e2 m2
    have e3 := Gd.eq (M := M2) (n := false) (d := c_ALL_KINDS) ((gd_kinds (k := 0)).mono (by decide)) rfl
    refine retE ⟨_, _, ?_, rfl, rfl⟩
    exact bin_of rfl q e3
  obtain ⟨_, _, e, rfl, rfl⟩ := H
  exact e
theorem lkI1 {v : D} : putD (Str.ofString "_threads") v [] = [(Str.ofString "_threads", v)] := rfl
theorem lkI2 {x v : D} : putD (Str.ofString "_handler") v [(Str.ofString "_threads", x)] = [(Str.ofString "_threads", x), (Str.ofString "_handler", v)] := rfl
theorem lkI3 {x y v : D} : putD (Str.ofString "_kinds") v [(Str.ofString "_threads", x), (Str.ofString "_handler", y)] = [(Str.ofString "_threads", x), (Str.ofString "_handler", y), (Str.ofString "_kinds", v)] := rfl
theorem sinit_ev {M : AS} {s : Sch} (S : s.Ok) : ∃ M', A_Scheme_init [.ref M.nx, .tup (s.th.map codeD), codeD s.ha, c_ALL_KINDS] (M.new (.ins 0 [])) = some (.non, M') ∧ SchL M' M.nx s ∧ Fr No M M' := by
  have m0 : (M.new (.ins 0 [])).mem M.nx = some (.ins 0 []) := AS.new_same
  obtain ⟨M1, e1, f1⟩ := are_threads_ev (M := M.new (.ins 0 [])) S
  obtain ⟨M2, e2, f2⟩ := is_code_ev (M := M1) (lo := 0) (hi := 3) S.ha (by decide)
  have e2 : A_is_code [codeD s.ha, .int 0, .int 3] M1 = some (.bl true, M2) := e2
  obtain ⟨M3, e3, f3⟩ := kinds_ev (M := M2)
  have f := f1.trans (f2.trans f3)
  have m3 := f.at m0 (Nat.lt_succ_self _) id
  have hn : M.nx < M3.nx := Nat.lt_of_lt_of_le (Nat.lt_succ_self _) f.1
  refine ⟨((M3.set M.nx (.ins 0 [("_threads", .tup (s.th.map codeD))])).set M.nx (.ins 0 [("_threads", .tup (s.th.map codeD)), ("_handler", codeD s.ha)])).set M.nx (.ins 0 [("_threads", .tup (s.th.map codeD)), ("_handler", codeD s.ha), ("_kinds", c_ALL_KINDS)]), ?_, ⟨AS.set_same, hn⟩, ⟨Nat.le_of_lt hn, fun n h1 _ => ?_⟩⟩
  · clear S f1 f2 f3 f hn m0
    unfold A_Scheme_init
    have l1 := @lkI1
    have l2 := @lkI2
    have l3 := @lkI3
    walk_at "ev"
    try rfl
  · rw [AS.set_ne (Nat.ne_of_lt h1), AS.set_ne (Nat.ne_of_lt h1), AS.set_ne (Nat.ne_of_lt h1)]
    exact (f.2 n (Nat.lt_succ_of_lt h1) id).trans (AS.new_ne (Nat.ne_of_lt h1))
end SM
namespace SM
open PySem L2 AL
local macro_rules | `(tactic| walk_at "ev") => `(tactic| simp only [fnA, fSeq, fNx, fIfS, fTst, fTru, truD, fBin, oAdd, oI0, oI, oLt, oLe, oGt, oGe, oSub, oMul, oDiv, oMod, oPow, fVar, fC, fCB, fCons, fNil, fCall, oLen, oInt, oMax2, oMin2, seqOf, lstOf, mutOf, fRet, fRetN, fAsg, gN, fAnd, fOr, fNot, fAndV, fOrV, fNotV, fIf, fTup, fLst, oIx, fDrop, fPar, fChain, oIsN, D.isNon, fFor, fRng1, fuelOf, gSubD, rlim,
  oIsi, fInK, fIxK, oCatL, fApp, fPopAt, oTuple, oList, oEqO, tyD, fIsC, fMake, fMeth, fFldS, fFldAug, fldPut, gFldD, isCls, lkS1, lkS2, lkS3, puts1, puts2, puts3, puts4, puts5, lkM, A_Machine_steps, A_Machine_state, kits, bools, oAll, fItSeq, id, List.all_cons, List.all_nil, c_QUIET, fSl, fNoP, fPart, gTupD, gsCons, gsNil, fProp, fFld, oCatT, eqS, eqI, cut9_3, cut9_37, cut9_13, cut6_4, cut3_2, lkT, lkH, lkK, A_Scheme_threads, A_Scheme_handler, A_Scheme_kinds, c_MOST_WORDS, shW, wtab, ws_eq, beq_self_eq_true, at_2, at_3, at_6, at_9, ix_2, ix_3, ix_6, ix_9, List.mem_singleton,
  Bool.or_true, Bool.or_false, Bool.or_self, Bool.true_or, Bool.false_or, Bool.true_and, Bool.and_true, Bool.false_and, Bool.and_false, List.map_append, List.map_cons, List.map_nil, List.length_cons, List.length_nil, List.replicate, List.cons_append, List.nil_append, List.append_nil, List.getElem?_cons_zero, List.getElem?_cons_succ, List.set_cons_zero, List.set_cons_succ, Nat.reduceAdd, Nat.reduceSub, Nat.reduceLeDiff, Nat.reduceLT, if_true, if_false, Bool.not_true, Bool.not_false, Nat.sub_zero, Nat.sub_self, big, Int.reduceLT, Int.reduceLE, Int.reduceEq, Nat.reduceEqDiff, Int.reduceAdd, Int.reduceSub, Int.reduceMul, Int.reduceMod, Int.reduceDiv, and_self, decide_true, decide_false, Bool.false_eq_true, AS.set_same, AS.set_set, *])
theorem lscheme_ev {M : AS} {d sc : Nat} {ns : List Int} {K : Nat} (h : Drw M d sc ns (K + 65)) :
    ∃ (s : Sch) (a : Nat) (M' : AS), A__law_scheme [.ref d, .int 3, .int 5, c_ALL_KINDS] M = some (.ref a, M') ∧ s.Ok ∧ SchL M' a s ∧ Drw M' d sc ns K ∧ Fr (· = d) M M' ∧ M.nx ≤ a := by
  have hne : M.nx ≠ d := Nat.ne_of_gt h.dl
  have hns : M.nx ≠ sc := Nat.ne_of_gt h.sl
  obtain ⟨r, M1, e1, hr, h1, f1⟩ := next_dr (K := K + 64) (h.fr (S := No) (M' := M.new (.lst [])) .new id id) (b := 3) (by decide)
  have m1 : M1.mem M.nx = some (.lst []) := f1.at AS.new_same (Nat.lt_succ_self _) hne
  have rl : -(2 ^ 62) ≤ (1 + (r : Int)) ∧ (1 + (r : Int)) < 2 ^ 62 := ⟨by omega, by omega⟩
  have hlen : (rngD 0 1 (1 + (r : Int)).toNat).length = r + 1 := by unfold rngD; rw [List.length_map, List.length_range]; omega
  have hfi : fRng1 (fCons (fBin oAdd (fC (.int 1)) (fCall A__law_next (fCons (fVar 0) (fCons (fVar 1) fNil)))) fNil) [some (.ref d), some (.int 3), some (.int 5), some c_ALL_KINDS, some (.ref M.nx), none] (M.new (.lst [])) = some (.fix (rngD 0 1 (1 + (r : Int)).toNat), M1) := by
    clear h h1 f1 hlen m1
    walk_at "ev"
  obtain ⟨ds2, M2, e2, cs, y, q1, q2, q3, q4, q5, q6, q7⟩ := for_inv (b := fDrop (fApp (fVar 4) (fCall A__law_code (fCons (fVar 0) (fCons (fC (.int 1)) (fCons (fVar 2) fNil)))))) (g := gN 5) (fun i ds M2 => ∃ (cs : List (List Ins)) (y : Option D), cs.length = i ∧ M2.mem M.nx = some (.lst (cs.map codeD)) ∧ (∀ c ∈ cs, OkC 1 5 c) ∧ Drw M2 d sc ns (K + 16 + 16 * (3 - i)) ∧ Fr (· = d) M M2 ∧ M.nx < M2.nx ∧ ds = [some (.ref d), some (.int 3), some (.int 5), some c_ALL_KINDS, some (.ref M.nx), y]) hfi
    ⟨[], none, rfl, m1, (fun c hc => by cases hc), h1.mono (by omega), (Fr.trans .new f1), Nat.lt_of_lt_of_le (Nat.lt_succ_self _) f1.1, rfl⟩
    (fun i hi ds M2 ⟨cs, y, q1, q2, q3, q4, q5, q6, q7⟩ => by
      rw [hlen] at hi
      obtain ⟨c, M3, p1, p2, p3, p4⟩ := code_ev (K := K + 16 + 16 * (3 - (i + 1))) (lo := 1) (hi := 5) (q4.mono (by omega)) (by decide) (by decide)
      have p1 : A__law_code [.ref d, .int 1, .int 5] M2 = some (codeD c, M3) := p1
      have m3 := p4.at q2 q6 hne
      have hb : (cs.map codeD).length < 100000 := by rw [List.length_map]; omega
      refine ⟨_, M2, [some (.ref d), some (.int 3), some (.int 5), some c_ALL_KINDS, some (.ref M.nx), some (rngD 0 1 (1 + (r : Int)).toNat)[i]], M3.set M.nx (.lst ((cs ++ [c]).map codeD)), rfl, ?_, cs ++ [c], _, by rw [List.length_append]; exact congrArg (· + 1) q1, AS.set_same, fun x hx => ?_, p3.fr (S := (· = M.nx)) (.set fun _ => rfl) (Ne.symm hne) (Ne.symm hns), ?_, Nat.lt_of_lt_of_le q6 p4.1, rfl⟩
      · clear q4 q5 p3 p4 h h1 f1 hfi hlen q3 p2
        subst q7
        simp only [List.map_append]
        walk_at "ev"
      · rcases List.mem_append.mp hx with hx | hx
        · exact q3 x hx
        · rw [List.mem_singleton.mp hx]; exact p2
      · exact ⟨Nat.le_trans q5.1 p4.1, fun n z1 z2 => (AS.set_ne (Nat.ne_of_lt z1)).trans ((q5.trans p4).2 n z1 z2)⟩)
  rw [hlen] at q1 q4
  obtain ⟨ha, M3, p1, p2, p3, p4⟩ := code_ev (K := K) (lo := 0) (hi := 3) (q4.mono (by omega)) (by decide) (by decide)
  have p1 : A__law_code [.ref d, .int 0, .int 3] M2 = some (codeD ha, M3) := p1
  have S : (Sch.mk cs ha).Ok := ⟨by show 1 ≤ cs.length; omega, by show cs.length ≤ 3; omega, q3, p2⟩
  obtain ⟨M4, e4, s4, f4⟩ := sinit_ev (M := M3) S
  have e4 : A_Scheme_init [.ref M3.nx, .tup (cs.map codeD), codeD ha, c_ALL_KINDS] (M3.new (.ins 0 [])) = some (.non, M4) := e4
  refine ⟨⟨cs, ha⟩, M3.nx, M4, ?_, S, s4, p3.fr f4 id id, q5.trans (p4.trans f4.no), Nat.le_trans q5.1 p4.1⟩
  have H : Res (A__law_scheme [.ref d, .int 3, .int 5, c_ALL_KINDS] M) fun y M' => .ref M3.nx = y ∧ M4 = M' := by
    clear q4 q5 p3 p4 h h1 f1 hlen q3 p2 s4 f4 S
    unfold A__law_scheme
    refine fnE ?_
    refine seqE (Q := fun ds1 M' => ds1 = [some (.ref d), some (.int 3), some (.int 5), some c_ALL_KINDS, some (.ref M.nx), none] ∧ M.new (.lst []) = M') ⟨_, _, rfl, rfl, rfl⟩ ?_
    rintro _ _ ⟨rfl, rfl⟩
    refine seqE (Q := fun ds1 M' => ds1 = ds2 ∧ M2 = M') ⟨_, _, e2, rfl, rfl⟩ ?_
    rintro _ _ ⟨rfl, rfl⟩
    subst q7
    refine retE ⟨_, _, ?_, rfl, rfl⟩
    simp only [fMakeK, gD_Scheme]
    clear e2 hfi e1 m1
    walk_at "ev"
  obtain ⟨_, _, e, rfl, rfl⟩ := H
  exact e
end SM
namespace SM
open PySem L2 AL
local macro_rules | `(tactic| walk_at "ev") => `(tactic| simp only [fnA, fSeq, fNx, fIfS, fTst, fTru, truD, fBin, oAdd, oI0, oI, oLt, oLe, oGt, oGe, oSub, oMul, oDiv, oMod, oPow, fVar, fC, fCB, fCons, fNil, fCall, oLen, oInt, oMax2, oMin2, seqOf, lstOf, mutOf, fRet, fRetN, fAsg, gN, fAnd, fOr, fNot, fAndV, fOrV, fNotV, fIf, fTup, fLst, oIx, fDrop, fPar, fChain, oIsN, D.isNon, fFor, fRng1, fuelOf, gSubD, rlim,
  oIsi, fInK, fIxK, oCatL, fApp, fPopAt, oTuple, oList, oEqO, tyD, fIsC, fMake, fMeth, fFldS, fFldAug, fldPut, gFldD, isCls, lkS1, lkS2, lkS3, puts1, puts2, puts3, puts4, puts5, lkM, A_Machine_steps, A_Machine_state, kits, bools, oAll, fItSeq, id, List.all_cons, List.all_nil, c_QUIET, fSl, fNoP, fPart, gTupD, gsCons, gsNil, fProp, fFld, oCatT, eqS, eqI, cut9_3, cut9_37, cut9_13, cut6_4, cut3_2, lkT, lkH, lkK, A_Scheme_threads, A_Scheme_handler, A_Scheme_kinds, c_MOST_WORDS, shW, wtab, ws_eq, beq_self_eq_true, at_2, at_3, at_6, at_9, ix_2, ix_3, ix_6, ix_9, List.mem_singleton,
  Bool.or_true, Bool.or_false, Bool.or_self, Bool.true_or, Bool.false_or, Bool.true_and, Bool.and_true, Bool.false_and, Bool.and_false, List.map_append, List.map_cons, List.map_nil, List.length_cons, List.length_nil, List.replicate, List.cons_append, List.nil_append, List.append_nil, List.getElem?_cons_zero, List.getElem?_cons_succ, List.set_cons_zero, List.set_cons_succ, Nat.reduceAdd, Nat.reduceSub, Nat.reduceLeDiff, Nat.reduceLT, if_true, if_false, Bool.not_true, Bool.not_false, Nat.sub_zero, Nat.sub_self, big, Int.reduceLT, Int.reduceLE, Int.reduceEq, Nat.reduceEqDiff, Int.reduceAdd, Int.reduceSub, Int.reduceMul, Int.reduceMod, Int.reduceDiv, and_self, decide_true, decide_false, Bool.false_eq_true, AS.set_same, AS.set_set, *])
abbrev kindsX : List D := [.tup [.int 0, .str "rings"], .tup [.int 1, .str "alarms"], .tup [.int 2, .str "ticks"], .tup [.int 3, .str "words"], .tup [.int 4, .str "results"], .tup [.int 5, .str "firsts"]]
def partsD (w : Wd) : List D := [.bl w.r, .bl w.a, .bl w.t, arD w.w, .int w.c, .int w.f]
theorem inK {M : AS} : oIn false (.str (Str.ofString "rings")) c_ALL_KINDS M = some (.bl true, M) ∧ oIn false (.str (Str.ofString "alarms")) c_ALL_KINDS M = some (.bl true, M) ∧ oIn false (.str (Str.ofString "ticks")) c_ALL_KINDS M = some (.bl true, M) ∧ oIn false (.str (Str.ofString "words")) c_ALL_KINDS M = some (.bl true, M) ∧ oIn false (.str (Str.ofString "results")) c_ALL_KINDS M = some (.bl true, M) ∧ oIn false (.str (Str.ofString "firsts")) c_ALL_KINDS M = some (.bl true, M) := ⟨rfl, rfl, rfl, rfl, rfl, rfl⟩
theorem lworld_ev {M : AS} {d sc : Nat} {ns : List Int} {K : Nat} (h : Drw M d sc ns (K + 12)) :
    ∃ (w : Wd) (M' : AS), A__law_world [.ref d, c_ALL_KINDS] M = some (w.d, M') ∧ w.Ok ∧ Drw M' d sc ns K ∧ Fr (· = d) M M' := by
  have hne : M.nx ≠ d := Nat.ne_of_gt h.dl
  have hns : M.nx ≠ sc := Nat.ne_of_gt h.sl
  have h1 := h.fr (S := No) (M' := M.new (.lst (partsD ⟨false, false, false, none, 0, 0⟩))) .new id id
  have in0 := fun M => @inK M
  obtain ⟨ds2, M2, e2, w, x, y, q1, q2, q3, q4, q5, q6⟩ := for_inv (xs := kindsX) (fi := fEnum (fC c_ALL_KINDS)) (M := M.new (.lst (partsD ⟨false, false, false, none, 0, 0⟩))) (M1 := M.new (.lst (partsD ⟨false, false, false, none, 0, 0⟩))) (ds := [some (.ref d), some c_ALL_KINDS, some (.ref M.nx), none, none])
    (b := fIfS (fAnd (fTst (fBin (oIn false) (fVar 4) (fVar 1))) (fTst (fBin (oEqD false) (fCall A__law_next (fCons (fVar 0) (fCons (fC (.int 3)) fNil))) (fC (.int 0))))) (fAsg (fIf (fTst (fBin oLt (fVar 3) (fC (.int 3)))) (fC (.bl true)) (fBin oAdd (fC (.int 1)) (fCall A__law_next (fCons (fVar 0) (fCons (fC (.int 2)) fNil))))) (gSubD (fVar 2) (fVar 3))) fNx)
    (g := gTupD 2 (gsCons (gN 3) (gsCons (gN 4) gsNil)))
    (fun i ds M2 => ∃ (w : Wd) (x y : Option D), w.Ok ∧ M2.mem M.nx = some (.lst (partsD w)) ∧ Drw M2 d sc ns (K + 2 * (6 - i)) ∧ Fr (· = d) M M2 ∧ M.nx < M2.nx ∧ ds = [some (.ref d), some c_ALL_KINDS, some (.ref M.nx), x, y])
    rfl ⟨_, none, none, ⟨(fun v hv => by cases hv), by decide, by decide, by decide, by decide⟩, AS.new_same, h1, .new, Nat.lt_succ_self _, rfl⟩
    (fun i hi ds M2 ⟨w, x, y, q1, q2, q3, q4, q5, q6⟩ => by
      have hi : i < 6 := hi
      obtain ⟨r, M3, e3, hr, h3, f3⟩ := next_dr (K := K + 2 * (6 - (i + 1)) + 1) (q3.mono (by omega)) (b := 3) (by decide)
      have m3 := f3.at q2 q5 hne
      have f4 := q4.trans f3
      have n3 := Nat.lt_of_lt_of_le q5 f3.1
      have fin : ∀ (w' : Wd), w'.Ok → ∀ M4, Drw M4 d sc ns (K + 2 * (6 - (i + 1))) → Fr (· = d) M M4 → M.nx < M4.nx → ∀ x y, ∃ (w : Wd) (x' y' : Option D), w.Ok ∧ (M4.set M.nx (.lst (partsD w'))).mem M.nx = some (.lst (partsD w)) ∧ Drw (M4.set M.nx (.lst (partsD w'))) d sc ns (K + 2 * (6 - (i + 1))) ∧ Fr (· = d) M (M4.set M.nx (.lst (partsD w'))) ∧ M.nx < (M4.set M.nx (.lst (partsD w'))).nx ∧ [some (.ref d), some c_ALL_KINDS, some (.ref M.nx), x, y] = [some (.ref d), some c_ALL_KINDS, some (.ref M.nx), x', y'] := fun w' ok M4 dr fr lt x y =>
        ⟨w', x, y, ok, AS.set_same, dr.fr (S := (· = M.nx)) (.set fun _ => rfl) (Ne.symm hne) (Ne.symm hns), ⟨fr.1, fun n z1 z2 => (AS.set_ne (Nat.ne_of_lt z1)).trans (fr.2 n z1 z2)⟩, lt, rfl⟩
      have keep : ∀ x y, ∃ (w : Wd) (x' y' : Option D), w.Ok ∧ M3.mem M.nx = some (.lst (partsD w)) ∧ Drw M3 d sc ns (K + 2 * (6 - (i + 1))) ∧ Fr (· = d) M M3 ∧ M.nx < M3.nx ∧ [some (.ref d), some c_ALL_KINDS, some (.ref M.nx), x, y] = [some (.ref d), some c_ALL_KINDS, some (.ref M.nx), x', y'] := fun x y => ⟨w, x, y, q1, m3, h3.mono (by omega), f4, n3, rfl⟩
      by_cases hz : r = 0
      · subst hz
        replace e3 : A__law_next [.ref d, .int 3] M2 = some (.int 0, M3) := e3
        obtain ⟨u, M4, e4, hu, h4, f5⟩ := next_dr (K := K + 2 * (6 - (i + 1))) h3 (b := 2) (by decide)
        have m4 := f5.at m3 n3 hne
        have f6 := f4.trans f5
        have n4 := Nat.lt_of_lt_of_le n3 f5.1
        have h3m : Drw M3 d sc ns (K + 2 * (6 - (i + 1))) := h3.mono (by omega)
        have hi6 : i = 0 ∨ i = 1 ∨ i = 2 ∨ i = 3 ∨ i = 4 ∨ i = 5 := by omega
        subst q6
        unfold partsD at m3 m4
        rcases hi6 with rfl | rfl | rfl | rfl | rfl | rfl
        · refine ⟨[some (.ref d), some c_ALL_KINDS, some (.ref M.nx), some (.int 0), some (.str "rings")], M2, _, M3.set M.nx (.lst (partsD { w with r := true })), rfl, ?_, fin { w with r := true } ⟨q1.w1, q1.c0, q1.c2, q1.f0, q1.f2⟩ M3 h3m f4 n3 (some (.int 0)) (some (.str "rings"))⟩
          clear fin keep q1 q3 q4 h3 h3m h4 f3 f4 f5 f6 hu hr
          unfold partsD
          walk_at "ev"
        · refine ⟨[some (.ref d), some c_ALL_KINDS, some (.ref M.nx), some (.int 1), some (.str "alarms")], M2, _, M3.set M.nx (.lst (partsD { w with a := true })), rfl, ?_, fin { w with a := true } ⟨q1.w1, q1.c0, q1.c2, q1.f0, q1.f2⟩ M3 h3m f4 n3 (some (.int 1)) (some (.str "alarms"))⟩
          clear fin keep q1 q3 q4 h3 h3m h4 f3 f4 f5 f6 hu hr
          unfold partsD
          walk_at "ev"
        · refine ⟨[some (.ref d), some c_ALL_KINDS, some (.ref M.nx), some (.int 2), some (.str "ticks")], M2, _, M3.set M.nx (.lst (partsD { w with t := true })), rfl, ?_, fin { w with t := true } ⟨q1.w1, q1.c0, q1.c2, q1.f0, q1.f2⟩ M3 h3m f4 n3 (some (.int 2)) (some (.str "ticks"))⟩
          clear fin keep q1 q3 q4 h3 h3m h4 f3 f4 f5 f6 hu hr
          unfold partsD
          walk_at "ev"
        · refine ⟨[some (.ref d), some c_ALL_KINDS, some (.ref M.nx), some (.int 3), some (.str "words")], M2, _, M4.set M.nx (.lst (partsD { w with w := some (1 + u) })), rfl, ?_, fin { w with w := some (1 + u) } ⟨(fun v hv => by cases hv; omega), q1.c0, q1.c2, q1.f0, q1.f2⟩ M4 h4 f6 n4 (some (.int 3)) (some (.str "words"))⟩
          clear fin keep q1 q3 q4 h3 h3m h4 f3 f4 f5 f6 hu hr
          unfold partsD
          simp only [arD]
          walk_at "ev"
        · refine ⟨[some (.ref d), some c_ALL_KINDS, some (.ref M.nx), some (.int 4), some (.str "results")], M2, _, M4.set M.nx (.lst (partsD { w with c := 1 + u })), rfl, ?_, fin { w with c := 1 + u } ⟨q1.w1, by show (0 : Int) ≤ 1 + u; omega, by show (1 + u : Int) ≤ 2; omega, q1.f0, q1.f2⟩ M4 h4 f6 n4 (some (.int 4)) (some (.str "results"))⟩
          clear fin keep q1 q3 q4 h3 h3m h4 f3 f4 f5 f6 hu hr
          unfold partsD
          walk_at "ev"
        · refine ⟨[some (.ref d), some c_ALL_KINDS, some (.ref M.nx), some (.int 5), some (.str "firsts")], M2, _, M4.set M.nx (.lst (partsD { w with f := 1 + u })), rfl, ?_, fin { w with f := 1 + u } ⟨q1.w1, q1.c0, q1.c2, by show (0 : Int) ≤ 1 + u; omega, by show (1 + u : Int) ≤ 2; omega⟩ M4 h4 f6 n4 (some (.int 5)) (some (.str "firsts"))⟩
          clear fin keep q1 q3 q4 h3 h3m h4 f3 f4 f5 f6 hu hr
          unfold partsD
          walk_at "ev"
      · have hz2 : ((r : Int) == 0) = false := beq_eq_false_iff_ne.mpr (by omega)
        have hi6 : i = 0 ∨ i = 1 ∨ i = 2 ∨ i = 3 ∨ i = 4 ∨ i = 5 := by omega
        subst q6
        clear fin
        rcases hi6 with rfl | rfl | rfl | rfl | rfl | rfl
        · refine ⟨[some (.ref d), some c_ALL_KINDS, some (.ref M.nx), some (.int 0), some (.str "rings")], M2, _, M3, rfl, ?_, keep (some (.int 0)) (some (.str "rings"))⟩
          clear keep q1 q3 q4 h3 f3 f4 hr hz
          walk_at "ev"
        · refine ⟨[some (.ref d), some c_ALL_KINDS, some (.ref M.nx), some (.int 1), some (.str "alarms")], M2, _, M3, rfl, ?_, keep (some (.int 1)) (some (.str "alarms"))⟩
          clear keep q1 q3 q4 h3 f3 f4 hr hz
          walk_at "ev"
        · refine ⟨[some (.ref d), some c_ALL_KINDS, some (.ref M.nx), some (.int 2), some (.str "ticks")], M2, _, M3, rfl, ?_, keep (some (.int 2)) (some (.str "ticks"))⟩
          clear keep q1 q3 q4 h3 f3 f4 hr hz
          walk_at "ev"
        · refine ⟨[some (.ref d), some c_ALL_KINDS, some (.ref M.nx), some (.int 3), some (.str "words")], M2, _, M3, rfl, ?_, keep (some (.int 3)) (some (.str "words"))⟩
          clear keep q1 q3 q4 h3 f3 f4 hr hz
          walk_at "ev"
        · refine ⟨[some (.ref d), some c_ALL_KINDS, some (.ref M.nx), some (.int 4), some (.str "results")], M2, _, M3, rfl, ?_, keep (some (.int 4)) (some (.str "results"))⟩
          clear keep q1 q3 q4 h3 f3 f4 hr hz
          walk_at "ev"
        · refine ⟨[some (.ref d), some c_ALL_KINDS, some (.ref M.nx), some (.int 5), some (.str "firsts")], M2, _, M3, rfl, ?_, keep (some (.int 5)) (some (.str "firsts"))⟩
          clear keep q1 q3 q4 h3 f3 f4 hr hz
          walk_at "ev")
  refine ⟨w, M2, ?_, q1, q3.mono (by omega), q4⟩
  have H : Res (A__law_world [.ref d, c_ALL_KINDS] M) fun y M' => w.d = y ∧ M2 = M' := by
    unfold A__law_world
    refine fnE ?_
    refine seqE (Q := fun ds1 M' => ds1 = [some (.ref d), some c_ALL_KINDS, some (.ref M.nx), none, none] ∧ M.new (.lst (partsD ⟨false, false, false, none, 0, 0⟩)) = M') ⟨_, _, rfl, rfl, rfl⟩ ?_
    rintro _ _ ⟨rfl, rfl⟩
    refine seqE (Q := fun ds1 M' => ds1 = ds2 ∧ M2 = M') ⟨_, _, e2, rfl, rfl⟩ ?_
    rintro _ _ ⟨rfl, rfl⟩
    subst q6
    exact retE ⟨_, _, tup_of (f := fVar 2) rfl q2, rfl, rfl⟩
  obtain ⟨_, _, e, rfl, rfl⟩ := H
  exact e
end SM
namespace SM
open PySem L2 AL
local macro_rules | `(tactic| walk_at "ev") => `(tactic| simp only [fnA, fSeq, fNx, fIfS, fTst, fTru, truD, fBin, oAdd, oI0, oI, oLt, oLe, oGt, oGe, oSub, oMul, oDiv, oMod, oPow, fVar, fC, fCB, fCons, fNil, fCall, oLen, oInt, oMax2, oMin2, seqOf, lstOf, mutOf, fRet, fRetN, fAsg, gN, fAnd, fOr, fNot, fAndV, fOrV, fNotV, fIf, fTup, fLst, oIx, fDrop, fPar, fChain, oIsN, D.isNon, fFor, fRng1, fuelOf, gSubD, rlim,
  oIsi, fInK, fIxK, oCatL, fApp, fPopAt, oTuple, oList, oEqO, tyD, fIsC, fMake, fMeth, fFldS, fFldAug, fldPut, gFldD, isCls, lkS1, lkS2, lkS3, puts1, puts2, puts3, puts4, puts5, lkM, A_Machine_steps, A_Machine_state, kits, bools, oAll, fItSeq, id, List.all_cons, List.all_nil, c_QUIET, fSl, fNoP, fPart, gTupD, gsCons, gsNil, fProp, fFld, oCatT, eqS, eqI, cut9_3, cut9_37, cut9_13, cut6_4, cut3_2, lkT, lkH, lkK, A_Scheme_threads, A_Scheme_handler, A_Scheme_kinds, c_MOST_WORDS, shW, wtab, ws_eq, beq_self_eq_true, at_2, at_3, at_6, at_9, ix_2, ix_3, ix_6, ix_9, List.mem_singleton,
  Bool.or_true, Bool.or_false, Bool.or_self, Bool.true_or, Bool.false_or, Bool.true_and, Bool.and_true, Bool.false_and, Bool.and_false, List.map_append, List.map_cons, List.map_nil, List.length_cons, List.length_nil, List.replicate, List.cons_append, List.nil_append, List.append_nil, List.getElem?_cons_zero, List.getElem?_cons_succ, List.set_cons_zero, List.set_cons_succ, Nat.reduceAdd, Nat.reduceSub, Nat.reduceLeDiff, Nat.reduceLT, if_true, if_false, Bool.not_true, Bool.not_false, Nat.sub_zero, Nat.sub_self, big, Int.reduceLT, Int.reduceLE, Int.reduceEq, Nat.reduceEqDiff, Int.reduceAdd, Int.reduceSub, Int.reduceMul, Int.reduceMod, Int.reduceDiv, and_self, decide_true, decide_false, Bool.false_eq_true, AS.set_same, AS.set_set, *])
def afterS (s : Sch) : St → List Wd → St
  | x, [] => x
  | x, w :: ws => afterS s (stepS s x w) ws
def runS (s : Sch) : St → List Wd → List D
  | _, [] => []
  | x, w :: ws => tellS s x w :: runS s (stepS s x w) ws
theorem after_snoc {s : Sch} {w : Wd} : ∀ (ws : List Wd) (x : St), afterS s x (ws ++ [w]) = stepS s (afterS s x ws) w
  | [], _ => rfl
  | _ :: ws, x => after_snoc ws _
theorem run_snoc {s : Sch} {w : Wd} : ∀ (ws : List Wd) (x : St), runS s x (ws ++ [w]) = runS s x ws ++ [tellS s (afterS s x ws) w]
  | [], _ => rfl
  | v :: ws, x => congrArg (tellS s x v :: ·) (run_snoc ws _)
theorem run_len {s : Sch} : ∀ (ws : List Wd) (x : St), (runS s x ws).length = ws.length
  | [], _ => rfl
  | v :: ws, x => congrArg (· + 1) (run_len ws _)
theorem after_ok {s : Sch} (S : s.Ok) : ∀ (ws : List Wd) (x : St), x.Ok s → (afterS s x ws).Ok s
  | [], _, h => h
  | v :: ws, x, h => after_ok S ws _ (step_ok S h)
theorem gds_run {k : Nat} {s : Sch} : ∀ (ws : List Wd) (x : St), Gds (k + 1) (runS s x ws)
  | [], _ => gds_nil
  | v :: ws, x => gds_cons gd_tell (gds_run ws _)
/-- the worlds as they are given: a tuple, or a list that stands -/
def XL (M : AS) (X : D) (ds : List D) : Prop := X = .tup ds ∨ ∃ n, X = .ref n ∧ M.mem n = some (.lst ds) ∧ n < M.nx
theorem XL.fr {M M' : AS} {X : D} {ds : List D} (h : XL M X ds) (f : Fr No M M') : XL M' X ds := by
  rcases h with rfl | ⟨n, rfl, h1, h2⟩
  · exact .inl rfl
  · exact .inr ⟨n, rfl, f.at h1 h2 id, Nat.lt_of_lt_of_le h2 f.1⟩
theorem for_of {fi : AI} {g : AG} {b : ASt} {ds : DS} {M M1 : AS} {I : Itr} {r : Option (Flw × DS × AS)} (e : fi ds M = some (I, M1)) (e2 : fLoop I g b (fuelOf I) 0 ds M1 = r) : fFor fi g b ds M = r := by unfold fFor; rw [e]; exact e2
theorem check_worlds_ev {M : AS} {a : Nat} {s : Sch} {X : D} {ws : List Wd} (hS : SchL M a s) (hX : XL M X (ws.map Wd.d)) (hl : ws.length ≤ 200) (hw : ∀ w ∈ ws, w.Ok) :
    ∃ M', A_check_worlds [.ref a, X, .int 200] M = some (.non, M') ∧ Fr No M M' := by
  have hlen : (ws.map Wd.d).length = ws.length := List.length_map _
  have turn : ∀ i (hi : i < (ws.map Wd.d).length) ds M2, (∃ y z, ds = [some (.ref a), some X, some (.int 200), y, z] ∧ Fr No M M2) → ∃ ds1 M1 ds2 M3, gTupD 2 (gsCons (gN 3) (gsCons (gN 4) gsNil)) (.tup [.int i, (ws.map Wd.d)[i]]) ds M2 = some (ds1, M1) ∧ fIfS (fNot (fTst (fCall A_is_world (fCons (fVar 0) (fCons (fVar 4) fNil))))) fNever fNx ds1 M1 = some (.nx, ds2, M3) ∧ (∃ y z, ds2 = [some (.ref a), some X, some (.int 200), y, z] ∧ Fr No M M3) := fun i hi ds M2 ⟨y, z, q, f⟩ => by
    subst q
    rw [hlen] at hi
    obtain ⟨M3, e3, f3⟩ := is_world_ev (hS.fr f id) (hw ws[i] (List.getElem_mem hi))
    refine ⟨[some (.ref a), some X, some (.int 200), some (.int i), some (ws[i].d)], M2, _, M3, by rw [List.getElem_map]; rfl, ?_, some (.int i), some (ws[i].d), rfl, f.trans f3⟩
    clear hS f f3
    generalize ws[i].d = wd at *
    walk_at "ev"
  have H : Res (A_check_worlds [.ref a, X, .int 200] M) fun y M' => .non = y ∧ Fr No M M' := by
    unfold A_check_worlds
    refine fnE ?_
    have hd : decide ((200 : Int) < (ws.length : Int)) = false := decide_eq_false (by omega)
    have hl2 : ((ws.map Wd.d).length : Int) = (ws.length : Int) := by rw [hlen]
    refine seqE (Q := fun ds1 M' => ds1 = [some (.ref a), some X, some (.int 200), none, none] ∧ M = M') ⟨_, _, ?_, rfl, rfl⟩ ?_
    · rcases hX with rfl | ⟨n, rfl, h1, h2⟩
      · have hty : fIsT ["list", "tuple"] (fVar 1) [some (.ref a), some (.tup (ws.map Wd.d)), some (.int 200), none, none] M = some (.bl true, M) := rfl
        refine if_ff (or_ff (not_of (tst_of hty)) ?_) rfl
        clear turn hS hl hw hlen hty
        walk_at "ev"
      · have hty : fIsT ["list", "tuple"] (fVar 1) [some (.ref a), some (.ref n), some (.int 200), none, none] M = some (.bl true, M) := by
          clear turn hS hl hw hlen hl2
          simp only [fIsT]
          walk_at "ev"
          rfl
        refine if_ff (or_ff (not_of (tst_of hty)) ?_) rfl
        clear turn hS hl hw hlen hty
        walk_at "ev"
    rintro _ _ ⟨rfl, rfl⟩
    refine lastE ?_
    rcases hX with rfl | ⟨n, rfl, h1, h2⟩
    · obtain ⟨ds', M', e, y, z, q, f⟩ := loopC_inv (n := 0) (N := 0) (xs := ws.map Wd.d) (I := .fix (enD (ws.map Wd.d))) (w := fun i x => .tup [.int i, x]) (g := gTupD 2 (gsCons (gN 3) (gsCons (gN 4) gsNil))) (b := fIfS (fNot (fTst (fCall A_is_world (fCons (fVar 0) (fCons (fVar 4) fNil))))) fNever fNx) (fun i ds M2 => ∃ y z, ds = [some (.ref a), some (.tup (ws.map Wd.d)), some (.int 200), y, z] ∧ Fr No M M2)
        (fun i ds M2 _ => by simp only [itAt, enD, List.getElem?_mapIdx]) turn (ws.map Wd.d).length 0 ((enD (ws.map Wd.d)).length + 1) _ M (Nat.zero_add _) (by unfold enD; rw [List.length_mapIdx]; exact Nat.lt_succ_self _) ⟨none, none, rfl, .refl⟩
      exact ⟨ds', M', for_of rfl e, rfl, f⟩
    · obtain ⟨ds', M', e, y, z, q, f⟩ := loopC_inv (n := 0) (N := 0) (xs := ws.map Wd.d) (I := .num n) (w := fun i x => .tup [.int i, x]) (g := gTupD 2 (gsCons (gN 3) (gsCons (gN 4) gsNil))) (b := fIfS (fNot (fTst (fCall A_is_world (fCons (fVar 0) (fCons (fVar 4) fNil))))) fNever fNx) (fun i ds M2 => ∃ y z, ds = [some (.ref a), some (.ref n), some (.int 200), y, z] ∧ Fr No M M2)
        (fun i ds M2 ⟨_, _, _, f⟩ => by
          have hm := f.at h1 h2 id
          simp only [itAt, lstOf, hm]
          cases (ws.map Wd.d)[i]? <;> rfl) turn (ws.map Wd.d).length 0 100000 _ M (Nat.zero_add _) (by omega) ⟨none, none, rfl, .refl⟩
      refine ⟨ds', M', for_of (I := .num n) (M1 := M) ?_ e, rfl, f⟩
      simp only [fEnum]
      clear e turn hS hl hw hlen hl2
      walk_at "ev"
  obtain ⟨_, M', e, rfl, f⟩ := H
  exact ⟨M', e, f⟩
theorem check_run_ev {M : AS} {a : Nat} {s : Sch} {X : D} {ws : List Wd} (hS : SchL M a s) (hX : XL M X (ws.map Wd.d)) (hl : ws.length ≤ 200) (hw : ∀ w ∈ ws, w.Ok) :
    ∃ M', A_check_run [.ref a, X] M = some (.non, M') ∧ Fr No M M' := by
  have hck := check_ev hS.1
  obtain ⟨M', e, f⟩ := check_worlds_ev hS hX hl hw
  refine ⟨M', ?_, f⟩
  unfold A_check_run
  clear hS hX hl hw f
  simp only [c_LONGEST_RUN]
  walk_at "ev"
theorem shown_by_ev {M : AS} {a : Nat} {s : Sch} {X : D} {ws : List Wd} (hS : SchL M a s) (S : s.Ok) (hX : XL M X (ws.map Wd.d)) (hl : ws.length ≤ 200) :
    ∃ t M', A_shown_by [.ref a, X] M = some (.ref t, M') ∧ M'.mem t = some (.lst (runS s (begS s) ws)) ∧ Fr No M M' := by
  have hlen : (ws.map Wd.d).length = ws.length := List.length_map _
  have hb := beginning_ev hS.1 S
  let P : Nat → DS → AS → Prop := fun i ds M2 => ∃ y z, ds = [some (.ref a), some X, some (afterS s (begS s) (ws.take i)).d, some (.ref M.nx), y, z] ∧ M2.mem M.nx = some (.lst (runS s (begS s) (ws.take i))) ∧ Fr No M M2 ∧ M.nx < M2.nx
  have turn : ∀ i (hi : i < (ws.map Wd.d).length) ds M2, P i ds M2 → ∃ ds1 M1 ds2 M3, gN 4 (ws.map Wd.d)[i] ds M2 = some (ds1, M1) ∧ (fSeq
    (fAsg (fCall A_stepped (fCons (fVar 0) (fCons (fVar 2) (fCons (fVar 4) fNil)))) (gTupD 2 (gsCons (gN 2) (gsCons (gN 5) gsNil))))
    (fDrop (fApp (fVar 3) (fVar 5)))) ds1 M1 = some (.nx, ds2, M3) ∧ P (i + 1) ds2 M3 := fun i hi ds M2 ⟨y, z, q, m2, f2, l2⟩ => by
    subst q
    rw [hlen] at hi
    have e := stepped_ev (w := ws[i]) (hS.fr f2 id).1 S (after_ok S (ws.take i) _ (beg_ok S))
    have ht : ws.take (i + 1) = ws.take i ++ [ws[i]] := by rw [List.take_succ, List.getElem?_eq_getElem hi]; rfl
    have hlr : (runS s (begS s) (ws.take i)).length < 100000 := by rw [run_len, List.length_take]; omega
    refine ⟨[some (.ref a), some X, some (afterS s (begS s) (ws.take i)).d, some (.ref M.nx), some (ws[i].d), z], M2, [some (.ref a), some X, some (stepS s (afterS s (begS s) (ws.take i)) ws[i]).d, some (.ref M.nx), some (ws[i].d), some (tellS s (afterS s (begS s) (ws.take i)) ws[i])], M2.set M.nx (.lst (runS s (begS s) (ws.take i) ++ [tellS s (afterS s (begS s) (ws.take i)) ws[i]])), by rw [List.getElem_map]; rfl, ?_, some (ws[i].d), some (tellS s (afterS s (begS s) (ws.take i)) ws[i]), ?_, by rw [ht, run_snoc]; exact AS.set_same, ⟨f2.1, fun n z1 z2 => (AS.set_ne (Nat.ne_of_lt z1)).trans (f2.2 n z1 z2)⟩, l2⟩
    · clear hS f2 hb hX
      generalize ws[i].d = wd at *
      generalize (stepS s (afterS s (begS s) (ws.take i)) ws[i]).d = d1 at *
      generalize tellS s (afterS s (begS s) (ws.take i)) ws[i] = d2 at *
      generalize (afterS s (begS s) (ws.take i)).d = d3 at *
      generalize runS s (begS s) (ws.take i) = d4 at *
      clear ht
      walk_at "ev"
    · rw [ht, after_snoc]
  have p0 : P 0 [some (.ref a), some X, some (begS s).d, some (.ref M.nx), none, none] (M.new (.lst [])) := ⟨none, none, rfl, AS.new_same, .new, Nat.lt_succ_self _⟩
  have hw : ws.take (ws.map Wd.d).length = ws := by rw [hlen]; exact List.take_length
  have H : Res (A_shown_by [.ref a, X] M) fun y M' => .ref M.nx = y ∧ M'.mem M.nx = some (.lst (runS s (begS s) ws)) ∧ Fr No M M' := by
    unfold A_shown_by
    refine fnE ?_
    refine seqE (Q := fun ds1 M' => ds1 = [some (.ref a), some X, some (begS s).d, none, none, none] ∧ M = M') ⟨_, _, ?_, rfl, rfl⟩ ?_
    · clear turn hS hX hl hlen p0 hw P
      generalize (begS s).d = bd at *
      walk_at "ev"
    rintro _ _ ⟨rfl, rfl⟩
    refine seqE (Q := fun ds1 M' => ds1 = [some (.ref a), some X, some (begS s).d, some (.ref M.nx), none, none] ∧ M.new (.lst []) = M') ⟨_, _, rfl, rfl, rfl⟩ ?_
    rintro _ _ ⟨rfl, rfl⟩
    refine seqE (Q := fun ds1 M' => P (ws.map Wd.d).length ds1 M') ?_ ?_
    · rcases hX with rfl | ⟨n, rfl, h1, h2⟩
      · obtain ⟨ds', M', e, p⟩ := loop_inv P turn (ws.map Wd.d).length 0 _ _ (Nat.zero_add _) p0
        exact ⟨ds', M', for_of rfl e, p⟩
      · obtain ⟨ds', M', e, p⟩ := loopC_inv (n := 0) (N := 0) (w := fun _ x => x) (I := .cell n) P (fun i ds M2 ⟨_, _, _, _, f, _⟩ => by
          have hm := f.at h1 h2 id
          simp only [itAt, lstOf, hm]
          cases (ws.map Wd.d)[i]? <;> rfl) turn (ws.map Wd.d).length 0 100000 _ _ (Nat.zero_add _) (by omega) p0
        refine ⟨ds', M', for_of (I := .cell n) (M1 := M.new (.lst [])) ?_ e, p⟩
        have hm : (M.new (.lst [])).mem n = some (.lst (ws.map Wd.d)) := (AS.new_ne (Nat.ne_of_lt h2)).trans h1
        clear e turn hS hl hlen hb p0 hw p P
        walk_at "ev"
    rintro ds1 M' ⟨y, z, rfl, m', f', l'⟩
    rw [hw] at m'
    exact retE ⟨_, _, rfl, rfl, m', f'⟩
  obtain ⟨_, M', e, rfl, m, f⟩ := H
  exact ⟨_, M', e, m, f⟩
theorem shown_ev {M : AS} {a : Nat} {s : Sch} {X : D} {ws : List Wd} (hS : SchL M a s) (S : s.Ok) (hX : XL M X (ws.map Wd.d)) (hl : ws.length ≤ 200) (hw : ∀ w ∈ ws, w.Ok) :
    ∃ t M', A_shown [.ref a, X] M = some (.ref t, M') ∧ M'.mem t = some (.lst (runS s (begS s) ws)) ∧ Fr No M M' := by
  obtain ⟨M1, e1, f1⟩ := check_run_ev hS hX hl hw
  obtain ⟨t, M2, e2, m2, f2⟩ := shown_by_ev (hS.fr f1 id) S (hX.fr f1) hl
  refine ⟨t, M2, ?_, m2, f1.trans f2⟩
  unfold A_shown
  clear hS S hX hl hw f1 f2 m2
  walk_at "ev"
end SM
namespace SM
open PySem L2 AL
local macro_rules | `(tactic| walk_at "ev") => `(tactic| simp only [fnA, fSeq, fNx, fIfS, fTst, fTru, truD, fBin, oAdd, oI0, oI, oLt, oLe, oGt, oGe, oSub, oMul, oDiv, oMod, oPow, fVar, fC, fCB, fCons, fNil, fCall, oLen, oInt, oMax2, oMin2, seqOf, lstOf, mutOf, fRet, fRetN, fAsg, gN, fAnd, fOr, fNot, fAndV, fOrV, fNotV, fIf, fTup, fLst, oIx, fDrop, fPar, fChain, oIsN, D.isNon, fFor, fRng1, fuelOf, gSubD, rlim,
  oIsi, fInK, fIxK, oCatL, fApp, fPopAt, oTuple, oList, tyD, fIsC, fMake, fMeth, fFldS, fFldAug, fldPut, gFldD, isCls, lkS1, lkS2, lkS3, puts1, puts2, puts3, puts4, puts5, lkM, A_Machine_steps, A_Machine_state, kits, bools, oAll, fItSeq, id, List.all_cons, List.all_nil, c_QUIET, fSl, fNoP, fPart, gTupD, gsCons, gsNil, fProp, fFld, oCatT, eqS, eqI, cut9_3, cut9_37, cut9_13, cut6_4, cut3_2, lkT, lkH, lkK, A_Scheme_threads, A_Scheme_handler, A_Scheme_kinds, c_MOST_WORDS, shW, wtab, ws_eq, beq_self_eq_true, at_2, at_3, at_6, at_9, ix_2, ix_3, ix_6, ix_9, List.mem_singleton,
  Bool.or_true, Bool.or_false, Bool.or_self, Bool.true_or, Bool.false_or, Bool.true_and, Bool.and_true, Bool.false_and, Bool.and_false, List.map_append, List.map_cons, List.map_nil, List.length_cons, List.length_nil, List.replicate, List.cons_append, List.nil_append, List.append_nil, List.getElem?_cons_zero, List.getElem?_cons_succ, List.set_cons_zero, List.set_cons_succ, Nat.reduceAdd, Nat.reduceSub, Nat.reduceLeDiff, Nat.reduceLT, if_true, if_false, Bool.not_true, Bool.not_false, Nat.sub_zero, Nat.sub_self, big, Int.reduceLT, Int.reduceLE, Int.reduceEq, Nat.reduceEqDiff, Int.reduceAdd, Int.reduceSub, Int.reduceMul, Int.reduceMod, Int.reduceDiv, and_self, decide_true, decide_false, Bool.false_eq_true, AS.set_same, AS.set_set, *])
theorem seqN {f g : ASt} {ds ds1 : DS} {M M1 : AS} {R : DS → AS → Prop} (h : f ds M = some (.nx, ds1, M1)) (h2 : ∃ ds2 M2, g ds1 M1 = some (.nx, ds2, M2) ∧ R ds2 M2) : ∃ ds2 M2, fSeq f g ds M = some (.nx, ds2, M2) ∧ R ds2 M2 := by
  obtain ⟨ds2, M2, e, r⟩ := h2
  refine ⟨ds2, M2, ?_, r⟩
  unfold fSeq
  rw [h]
  exact e
def dsR (d a many m c wl tl : Nat) (x7 x8 x9 x10 x11 : Option D) : DS := [some (.ref d), some (.ref a), some (.int many), some (.ref m), some (.ref c), some (.ref wl), some (.ref tl), x7, x8, x9, x10, x11]
theorem Fr.one {M M' : AS} (h : M'.nx = M.nx + 1) (q : ∀ n, n ≠ M.nx → M'.mem n = M.mem n) : Fr No M M' := ⟨by omega, fun n h1 _ => q n (Nat.ne_of_lt h1)⟩
structure RInv (M0 : AS) (d sc : Nat) (ns : List Int) (K many a m c wl tl : Nat) (s : Sch) (i : Nat) (M : AS) : Prop where
  ex : ∃ (A : CA) (ws : List Wd), A.c = c ∧ ws.length = i ∧ (∀ w ∈ ws, w.Ok) ∧ MachL M m a (afterS s (begS s) ws).d i ∧ CoreAt M A (afterS s (begS s) ws) ∧ M.mem wl = some (.lst (ws.map Wd.d)) ∧ M.mem tl = some (.lst (runS s (begS s) ws)) ∧ (∀ z, A.own z → z ≠ d ∧ z ≠ sc ∧ z ≠ a ∧ z ≠ m ∧ z ≠ wl ∧ z ≠ tl) ∧ ∀ z, A.own z → M0.nx ≤ z
  dr : Drw M d sc ns (K + 12 * (many - i))
  sh : SchL M a s
  lw : wl < M.nx
  lt : tl < M.nx
  fr : Fr (· = d) M0 M
theorem turn_run {M0 M : AS} {d sc : Nat} {ns : List Int} {K many a m c wl tl : Nat} {s : Sch} {i : Nat} (S : s.Ok) (hi : i < many) (hm40 : many ≤ 40)
    (n1 : d ≠ m) (n2 : sc ≠ m) (n3 : d ≠ a) (n4 : sc ≠ a) (n5 : wl ≠ d) (n6 : wl ≠ sc) (n7 : wl ≠ a) (n8 : wl ≠ m) (n9 : tl ≠ d) (n10 : tl ≠ sc) (n11 : tl ≠ a) (n12 : tl ≠ m) (n13 : wl ≠ tl) (o1 : M0.nx ≤ m) (o2 : M0.nx ≤ wl) (o3 : M0.nx ≤ tl)
    (I : RInv M0 d sc ns K many a m c wl tl s i M) (y8 y9 y10 y11 : Option D) :
    ∃ ds2 M2, (fSeq
    (fAsg (fCall A__law_world (fCons (fVar 0) (fCons (fProp 0 A_Scheme_kinds (fVar 1)) fNil))) (gN 8))
    (fSeq
    (fIfS (fTst (fBin (oEqD true) (fMeth 1 "next" A_Machine_next (fVar 3) fNil) (fCall A__law_next_one (fCons (fVar 1) (fCons (fVar 4) fNil))))) (fRet (fC (.bl false))) fNx)
    (fSeq
    (fIfS (fNot (fTst (fCall A_is_world (fCons (fVar 1) (fCons (fVar 8) fNil))))) (fRet (fC (.bl false))) fNx)
    (fSeq
    (fAsg (fMeth 1 "copy" A_Machine_copy (fVar 3) fNil) (gN 9))
    (fSeq
    (fAsg (fCall A_machine_at (fCons (fVar 1) (fCons (fProp 1 A_Machine_state (fVar 3)) fNil))) (gN 10))
    (fSeq
    (fAsg (fBin oIx (fCall A__law_step (fCons (fVar 1) (fCons (fVar 4) (fCons (fVar 8) fNil)))) (fC (.int 0))) (gN 11))
    (fSeq
    (fIfS (fTst (fBin (oEqD true) (fMeth 1 "step" A_Machine_step (fVar 3) (fCons (fVar 8) fNil)) (fVar 11))) (fRet (fC (.bl false))) fNx)
    (fSeq
    (fIfS (fTst (fBin (oEqD true) (fProp 1 A_Machine_state (fVar 3)) (fCall A__law_state (fCons (fVar 4) fNil)))) (fRet (fC (.bl false))) fNx)
    (fSeq
    (fIfS (fTst (fBin (oEqD true) (fProp 1 A_Machine_steps (fVar 3)) (fBin oAdd (fVar 7) (fC (.int 1))))) (fRet (fC (.bl false))) fNx)
    (fSeq
    (fIfS (fOr (fTst (fBin (oEqD true) (fProp 1 A_Machine_steps (fVar 9)) (fVar 7))) (fOr (fTst (fBin (oEqD true) (fProp 1 A_Machine_steps (fVar 10)) (fC (.int 0)))) (fNot (fTst (fBin (oEqO 1 A_Machine_eq) (fVar 9) (fVar 10)))))) (fRet (fC (.bl false))) fNx)
    (fSeq
    (fIfS (fOr (fTst (fBin (oEqD true) (fMeth 1 "step" A_Machine_step (fVar 10) (fCons (fVar 8) fNil)) (fVar 11))) (fNot (fTst (fBin (oEqO 1 A_Machine_eq) (fVar 10) (fVar 3))))) (fRet (fC (.bl false))) fNx)
    (fSeq
    (fIfS (fTst (fBin (oEqD true) (fMeth 1 "step" A_Machine_step (fVar 9) (fCons (fVar 8) fNil)) (fVar 11))) (fRet (fC (.bl false))) fNx)
    (fSeq
    (fIfS (fOr (fTst (fBin (oEqD true) (fProp 1 A_Machine_steps (fVar 10)) (fC (.int 1)))) (fTst (fBin (oEqD true) (fProp 1 A_Machine_steps (fVar 9)) (fBin oAdd (fVar 7) (fC (.int 1)))))) (fRet (fC (.bl false))) fNx)
    (fSeq
    (fDrop (fApp (fVar 5) (fVar 8)))
    (fDrop (fApp (fVar 6) (fVar 11)))))))))))))))))  (dsR d a many m c wl tl (some (.int i)) y8 y9 y10 y11) M = some (.nx, ds2, M2) ∧ ∃ z7 z8 z9 z10 z11, ds2 = dsR d a many m c wl tl z7 z8 z9 z10 z11 ∧ RInv M0 d sc ns K many a m c wl tl s (i + 1) M2 := by
  obtain ⟨⟨A, ws, rfl, hwl, hwo, mc, co, wlm, tlm, own, ownl⟩, dr, sh, lw, lt, fr⟩ := I
  have hx : (afterS s (begS s) ws).Ok s := after_ok S ws _ (beg_ok S)
  have hsnoc := fun w => after_snoc (s := s) (w := w) ws (begS s)
  have hrsnoc := fun w => run_snoc (s := s) (w := w) ws (begS s)
  have hrl := run_len (s := s) ws (begS s)
  generalize hxx : afterS s (begS s) ws = x at mc co hx hsnoc hrsnoc
  generalize htt : runS s (begS s) ws = ts at tlm hrsnoc hrl
  -- the world
  obtain ⟨w, M1, e1, W, d1, f1⟩ := lworld_ev (K := K + 12 * (many - (i + 1))) (dr.mono (by omega))
  have s1 := sh.fr f1 n3.symm
  have m1 := mc.fr f1 n1.symm
  have c1 := co.fr f1 fun n o => (own n o).1
  have w1 := f1.at wlm lw n5
  have t1 := f1.at tlm lt n9
  have lw1 := Nat.lt_of_lt_of_le lw f1.1
  have lt1 := Nat.lt_of_lt_of_le lt f1.1
  -- next
  have en := mnext_ev m1 s1 S hx
  obtain ⟨_, M2, e2, rfl, f2⟩ := lnext_ev s1 c1 S hx
  have eu := Gd.eq (M := M2) (n := true) ((gd_up (k := 0) (s := s) (x := x)).mono (by decide : 0 + 3 ≤ 64)) rfl
  have s2 := s1.fr f2 id
  have m2 := m1.fr f2 id
  have c2 := c1.fr f2 fun _ _ z => z
  -- is_world
  obtain ⟨M3, e3, f3⟩ := is_world_ev s2 W
  have s3 := s2.fr f3 id
  have m3 := m2.fr f3 id
  have c3 := c2.fr f3 fun _ _ z => z
  -- copy
  obtain ⟨M4, e4, p4, q4, r4⟩ := copy_ev m3 s3 S
  have f4 := Fr.one q4 r4
  have s4 := s3.fr f4 id
  have m4 := m3.fr f4 id
  have c4 := c3.fr f4 fun _ _ z => z
  -- machine_at
  obtain ⟨M5, e5, p5, q5, r5⟩ := mat_ev (d := x.d) s4 S
  have f5 := Fr.one q5 r5
  have s5 := s4.fr f5 id
  have m5 := m4.fr f5 id
  have c5 := c4.fr f5 fun _ _ z => z
  have p45 := p4.fr f5 id
  -- the law's step
  obtain ⟨_, M6, e6, rfl, A', hAc, c6, ho6, f6⟩ := lstep_ev (w := w) s5 (fun o => (own a o).2.2.1 rfl) c5 S hx
  generalize hins : insD (insS s (meetS s x w)) = ins at e6
  have f05 : Fr No M1 M5 := f2.trans (f3.trans (f4.trans f5))
  have oT : ¬ A.own M3.nx := fun o => by have := c3.lt _ o; omega
  have oL : ¬ A.own M4.nx := fun o => by have := c4.lt _ o; omega
  have s6 := s5.fr f6 fun o => (own a o).2.2.1 rfl
  have m6 := m5.fr f6 fun o => (own m o).2.2.2.1 rfl
  have pT6 := p45.fr f6 oT
  have pL6 := p5.fr f6 oL
  have bnd : a < M5.nx ∧ m < M5.nx ∧ wl < M5.nx ∧ tl < M5.nx ∧ d < M5.nx ∧ sc < M5.nx ∧ M3.nx < M5.nx ∧ M4.nx < M5.nx := by
    have := f05.1; have := f4.1; have := s1.2; have := m1.2; have := d1.dl; have := d1.sl
    refine ⟨?_, ?_, ?_, ?_, ?_, ?_, ?_, ?_⟩ <;> omega
  have own' : ∀ z, A'.own z → z ≠ d ∧ z ≠ sc ∧ z ≠ a ∧ z ≠ m ∧ z ≠ wl ∧ z ≠ tl ∧ z ≠ M3.nx ∧ z ≠ M4.nx := fun z o => by
    rcases ho6 z o with o | o
    · have := own z o
      exact ⟨this.1, this.2.1, this.2.2.1, this.2.2.2.1, this.2.2.2.2.1, this.2.2.2.2.2, (fun e => oT (e ▸ o)), fun e => oL (e ▸ o)⟩
    · refine ⟨?_, ?_, ?_, ?_, ?_, ?_, ?_, ?_⟩ <;> omega
  have hx' : (stepS s x w).Ok s := step_ok S hx
  -- the machine's step
  obtain ⟨M7, e7, m7, f7⟩ := mstep_ev (w := w) m6 s6 S hx W
  have am := m6.ne s6
  have s7 := s6.fr f7 am
  have c7 := c6.fr f7 fun n o => (own' n o).2.2.2.1
  have nT : M3.nx ≠ m := Nat.ne_of_gt m3.2
  have nL : M4.nx ≠ m := Nat.ne_of_gt m4.2
  have nTL : M3.nx ≠ M4.nx := by have := q4; omega
  have pT7 := pT6.fr f7 nT
  have pL7 := pL6.fr f7 nL
  obtain ⟨_, M8, e8, rfl, f8⟩ := lstate_ev c7 (by rw [hx'.len]; exact S.n3)
  rw [hAc] at e8
  have s8 := s7.fr f8 id
  have m8 := m7.fr f8 id
  have c8 := c7.fr f8 fun _ _ z => z
  have pT8 := pT7.fr f8 id
  have pL8 := pL7.fr f8 id
  have et := fun M => Gd.eq (M := M) (n := true) ((gd_tell (k := 0) (s := s) (x := x) (w := w)).mono (by decide : 0 + 1 ≤ 64)) (by unfold tellS toldS; split <;> rfl)
  have es := Gd.eq (M := M8) (n := true) ((gd_st (k := 0) (stepS s x w)).mono (by decide : 0 + 4 ≤ 64)) rfl
  have q8 := meq_ev pT8 pL8 s8
  -- late's step
  obtain ⟨M9, e9, pL9, f9⟩ := mstep_ev (w := w) pL8 s8 S hx W
  have s9 := s8.fr f9 (pL8.ne s8)
  have m9 := m8.fr f9 nL.symm
  have c9 := c8.fr f9 fun n o => (own' n o).2.2.2.2.2.2.2
  have pT9 := pT8.fr f9 nTL
  have q9 := meq_ev pL9 m9 s9
  -- twin's step
  obtain ⟨M10, e10, pT10, f10⟩ := mstep_ev (w := w) pT9 s9 S hx W
  have s10 := s9.fr f10 (pT9.ne s9)
  have m10 := m9.fr f10 nT.symm
  have c10 := c9.fr f10 fun n o => (own' n o).2.2.2.2.2.2.1
  have pL10 := pL9.fr f10 nTL.symm
  -- what stands at the end
  let T : Nat → Prop := fun z => A.own z ∨ z = m ∨ z = M3.nx ∨ z = M4.nx
  have fT : Fr T M1 M10 := f05.no.trans ((f6.mono fun _ _ o => .inl o).trans ((f7.mono fun _ _ o => .inr (.inl o)).trans (f8.no.trans ((f9.mono fun _ _ o => .inr (.inr (.inr o))).trans (f10.mono fun _ _ o => .inr (.inr (.inl o)))))))
  have nn : d ≠ M3.nx ∧ d ≠ M4.nx ∧ sc ≠ M3.nx ∧ sc ≠ M4.nx ∧ wl ≠ M3.nx ∧ wl ≠ M4.nx ∧ tl ≠ M3.nx ∧ tl ≠ M4.nx := by
    have := f2.1; have := f3.1; have := f4.1; have := d1.dl; have := d1.sl
    refine ⟨?_, ?_, ?_, ?_, ?_, ?_, ?_, ?_⟩ <;> omega
  have d10 := d1.fr fT (fun o => o.elim (fun o => (own d o).1 rfl) fun o => o.elim n1 fun o => o.elim nn.1 nn.2.1) (fun o => o.elim (fun o => (own sc o).2.1 rfl) fun o => o.elim n2 fun o => o.elim nn.2.2.1 nn.2.2.2.1)
  have w10 := fT.at w1 lw1 (fun o => o.elim (fun o => (own wl o).2.2.2.2.1 rfl) fun o => o.elim n8 fun o => o.elim nn.2.2.2.2.1 nn.2.2.2.2.2.1)
  have t10 := fT.at t1 lt1 (fun o => o.elim (fun o => (own tl o).2.2.2.2.2 rfl) fun o => o.elim n12 fun o => o.elim nn.2.2.2.2.2.2.1 nn.2.2.2.2.2.2.2)
  have lw10 := Nat.lt_of_lt_of_le lw1 fT.1
  have lt10 := Nat.lt_of_lt_of_le lt1 fT.1
  have hn := mc.2
  have lnx : M0.nx ≤ M3.nx ∧ M0.nx ≤ M4.nx ∧ M0.nx ≤ M1.nx := by
    have := fr.1; have := f1.1; have := f2.1; have := f3.1; have := f4.1
    refine ⟨?_, ?_, ?_⟩ <;> omega
  have fr10 : Fr (· = d) M0 M10 := ⟨Nat.le_trans lnx.2.2 fT.1, fun n h1 h2 => (fT.2 n (Nat.lt_of_lt_of_le h1 lnx.2.2) (fun o => o.elim (fun o => by have := ownl n o; omega) fun o => o.elim (fun e => by omega) fun o => o.elim (fun e => by omega) fun e => by omega)).trans ((f1.2 n (Nat.lt_of_lt_of_le h1 fr.1) h2).trans (fr.2 n h1 h2))⟩
  have hwl2 : (ws.map Wd.d).length < 100000 := by rw [List.length_map]; omega
  have htl2 : ts.length < 100000 := by omega
  have t11 : (M10.set wl (.lst (ws.map Wd.d ++ [w.d]))).mem tl = some (.lst ts) := (AS.set_ne n13.symm).trans t10
  have fin : RInv M0 d sc ns K many a m A.c wl tl s (i + 1) ((M10.set wl (.lst (ws.map Wd.d ++ [w.d]))).set tl (.lst (ts ++ [tellS s x w]))) := by
    have g : Fr (fun z => z = wl ∨ z = tl) M10 ((M10.set wl (.lst (ws.map Wd.d ++ [w.d]))).set tl (.lst (ts ++ [tellS s x w]))) := Fr.trans (.set fun _ => .inl rfl) (.set fun _ => .inr rfl)
    refine ⟨⟨A', ws ++ [w], hAc, by rw [List.length_append]; exact congrArg (· + 1) hwl, fun v hv => ?_, ?_, ?_, ?_, ?_, fun z o => ?_, fun z o => ?_⟩, d10.fr g (fun o => o.elim n5.symm n9.symm) (fun o => o.elim n6.symm n10.symm), s10.fr g (fun o => o.elim n7.symm n11.symm), lw10, lt10, ⟨fr10.1, fun n h1 h2 => ?_⟩⟩
    · rcases List.mem_append.mp hv with hv | hv
      · exact hwo v hv
      · rw [List.mem_singleton.mp hv]; exact W
    · rw [hsnoc]; exact m10.fr g (fun o => o.elim n8.symm n12.symm)
    · rw [hsnoc]; exact c10.fr g (fun n o => fun z => z.elim (own' n o).2.2.2.2.1 (own' n o).2.2.2.2.2.1)
    · rw [AS.set_ne n13, AS.set_same, List.map_append]; rfl
    · rw [hrsnoc]; exact AS.set_same
    · have q := own' z o
      exact ⟨q.1, q.2.1, q.2.2.1, q.2.2.2.1, q.2.2.2.2.1, q.2.2.2.2.2.1⟩
    · rcases ho6 z o with o | o
      · exact ownl z o
      · have := f05.1; omega
    · rw [AS.set_ne (by omega), AS.set_ne (by omega)]
      exact fr10.2 n h1 h2
  have hsc := sh.1
  unfold SchAt at hsc
  have cm1 := m1.1
  have cm3 := m3.1
  have cm4 := m4.1
  have cm6 := m6.1
  have cm7 := m7.1
  have cm8 := m8.1
  have cT8 := pT8.1
  have cL8 := pL8.1
  have cT9 := pT9.1
  have cT10 := pT10.1
  have cL10 := pL10.1
  clear dr sh lw lt fr mc co wlm tlm d1 f1 s1 m1 c1 w1 t1 lw1 lt1 f2 s2 m2 c2 f3 s3 m3 c3 p4 q4 r4 f4 s4 m4 c4 p5 q5 r5 f5 s5 m5 c5 p45 c6 ho6 f6 f05 oT oL s6 m6 pT6 pL6 bnd own own' ownl hx hx' m7 f7 am s7 c7 nT nL nTL pT7 pL7 f8 s8 m8 c8 pT8 pL8 pL9 f9 s9 m9 c9 pT9 pT10 f10 s10 m10 c10 pL10 d10 lw10 lt10 fT nn lnx fr10 W hwo hwl hsnoc hrsnoc hrl hn hAc hxx htt hins n1 n2 n3 n4 n5 n6 n7 n8 n9 n10 n11 n12 n13 o1 o2 o3 S hi hm40
  generalize hw : Wd.d w = wd at *
  generalize tellS s x w = t at *
  generalize (stepS s x w).d = x2 at *
  generalize St.d x = x1 at *
  generalize upD s x = u at *
  generalize ws.map Wd.d = wds at *
  clear hw
  refine seqN (ds1 := dsR d a many m A.c wl tl (some (.int i)) (some wd) y9 y10 y11) (M1 := M1) ?_ ?_
  · clear fin e2 e3 e4 e5 e6 e7 e8 e9 e10 en eu et es q8 q9 cm1 cm3 cm4 cm6 cm7 cm8 cT8 cL8 cT9 cT10 cL10 w10 t10 t11
    unfold dsR
    walk_at "ev"
  refine seqN (ds1 := dsR d a many m A.c wl tl (some (.int i)) (some wd) y9 y10 y11) (M1 := M2) ?_ ?_
  · clear fin e1 e3 e4 e5 e6 e7 e8 e9 e10 et es q8 q9 cm3 cm4 cm6 cm7 cm8 cT8 cL8 cT9 cT10 cL10 w10 t10 t11 hsc
    unfold dsR
    walk_at "ev"
  refine seqN (ds1 := dsR d a many m A.c wl tl (some (.int i)) (some wd) y9 y10 y11) (M1 := M3) ?_ ?_
  · clear fin e1 e2 e4 e5 e6 e7 e8 e9 e10 en eu et es q8 q9 cm1 cm3 cm4 cm6 cm7 cm8 cT8 cL8 cT9 cT10 cL10 w10 t10 t11 hsc
    unfold dsR
    walk_at "ev"
  refine seqN (ds1 := dsR d a many m A.c wl tl (some (.int i)) (some wd) (some (.ref M3.nx)) y10 y11) (M1 := M4) ?_ ?_
  · clear fin e1 e2 e3 e5 e6 e7 e8 e9 e10 en eu et es q8 q9 cm1 cm4 cm6 cm7 cm8 cT8 cL8 cT9 cT10 cL10 w10 t10 t11 hsc
    unfold dsR
    walk_at "ev"
  generalize M3.nx = tw at *
  refine seqN (ds1 := dsR d a many m A.c wl tl (some (.int i)) (some wd) (some (.ref tw)) (some (.ref M4.nx)) y11) (M1 := M5) ?_ ?_
  · clear fin e1 e2 e3 e4 e6 e7 e8 e9 e10 en eu et es q8 q9 cm1 cm3 cm6 cm7 cm8 cT8 cL8 cT9 cT10 cL10 w10 t10 t11 hsc
    unfold dsR
    walk_at "ev"
  generalize M4.nx = la at *
  refine seqN (ds1 := dsR d a many m A.c wl tl (some (.int i)) (some wd) (some (.ref tw)) (some (.ref la)) (some t)) (M1 := M6) ?_ ?_
  · clear fin e1 e2 e3 e4 e5 e7 e8 e9 e10 en eu et es q8 q9 cm1 cm3 cm4 cm6 cm7 cm8 cT8 cL8 cT9 cT10 cL10 w10 t10 t11 hsc
    unfold dsR
    walk_at "ev"
  refine seqN (ds1 := dsR d a many m A.c wl tl (some (.int i)) (some wd) (some (.ref tw)) (some (.ref la)) (some t)) (M1 := M7) ?_ ?_
  · clear fin e1 e2 e3 e4 e5 e6 e8 e9 e10 en eu es q8 q9 cm1 cm3 cm4 cm7 cm8 cT8 cL8 cT9 cT10 cL10 w10 t10 t11 hsc
    unfold dsR
    walk_at "ev"
  refine seqN (ds1 := dsR d a many m A.c wl tl (some (.int i)) (some wd) (some (.ref tw)) (some (.ref la)) (some t)) (M1 := M8) ?_ ?_
  · clear fin e1 e2 e3 e4 e5 e6 e7 e9 e10 en eu et q8 q9 cm1 cm3 cm4 cm6 cm8 cT8 cL8 cT9 cT10 cL10 w10 t10 t11 hsc
    unfold dsR
    walk_at "ev"
  refine seqN (ds1 := dsR d a many m A.c wl tl (some (.int i)) (some wd) (some (.ref tw)) (some (.ref la)) (some t)) (M1 := M8) ?_ ?_
  · clear fin e1 e2 e3 e4 e5 e6 e7 e8 e9 e10 en eu et es q8 q9 cm1 cm3 cm4 cm6 cm7 cT8 cL8 cT9 cT10 cL10 w10 t10 t11 hsc
    unfold dsR
    walk_at "ev"
  refine seqN (ds1 := dsR d a many m A.c wl tl (some (.int i)) (some wd) (some (.ref tw)) (some (.ref la)) (some t)) (M1 := M8) ?_ ?_
  · clear fin e1 e2 e3 e4 e5 e6 e7 e8 e9 e10 en eu et es q9 cm1 cm3 cm4 cm6 cm7 cm8 cT9 cT10 cL10 w10 t10 t11 hsc
    unfold dsR
    walk_at "ev"
  refine seqN (ds1 := dsR d a many m A.c wl tl (some (.int i)) (some wd) (some (.ref tw)) (some (.ref la)) (some t)) (M1 := M9) ?_ ?_
  · clear fin e1 e2 e3 e4 e5 e6 e7 e8 e10 en eu es q8 cm1 cm3 cm4 cm6 cm7 cm8 cT8 cT9 cT10 cL10 w10 t10 t11 hsc
    unfold dsR
    walk_at "ev"
  refine seqN (ds1 := dsR d a many m A.c wl tl (some (.int i)) (some wd) (some (.ref tw)) (some (.ref la)) (some t)) (M1 := M10) ?_ ?_
  · clear fin e1 e2 e3 e4 e5 e6 e7 e8 e9 en eu es q8 q9 cm1 cm3 cm4 cm6 cm7 cm8 cT8 cL8 cT10 cL10 w10 t10 t11 hsc
    unfold dsR
    walk_at "ev"
  refine seqN (ds1 := dsR d a many m A.c wl tl (some (.int i)) (some wd) (some (.ref tw)) (some (.ref la)) (some t)) (M1 := M10) ?_ ?_
  · clear fin e1 e2 e3 e4 e5 e6 e7 e8 e9 e10 en eu et es q8 q9 cm1 cm3 cm4 cm6 cm7 cm8 cT8 cL8 cT9 w10 t10 t11 hsc
    have z1 : (0 : Int) + 1 = 1 := rfl
    unfold dsR
    walk_at "ev"
  refine seqN (ds1 := dsR d a many m A.c wl tl (some (.int i)) (some wd) (some (.ref tw)) (some (.ref la)) (some t)) (M1 := M10.set wl (.lst (wds ++ [wd]))) ?_ ⟨dsR d a many m A.c wl tl (some (.int i)) (some wd) (some (.ref tw)) (some (.ref la)) (some t), _, ?_, _, _, _, _, _, rfl, fin⟩
  · clear fin e1 e2 e3 e4 e5 e6 e7 e8 e9 e10 en eu et es q8 q9 cm1 cm3 cm4 cm6 cm7 cm8 cT8 cL8 cT9 cT10 cL10 t10 t11 hsc
    unfold dsR
    walk_at "ev"
  · clear fin e1 e2 e3 e4 e5 e6 e7 e8 e9 e10 en eu et es q8 q9 cm1 cm3 cm4 cm6 cm7 cm8 cT8 cL8 cT9 cT10 cL10 w10 t10 hsc
    unfold dsR
    walk_at "ev"
end SM
namespace SM
open PySem L2 AL
local macro_rules | `(tactic| walk_at "ev") => `(tactic| simp only [fnA, fSeq, fNx, fIfS, fTst, fTru, truD, fBin, oAdd, oI0, oI, oLt, oLe, oGt, oGe, oSub, oMul, oDiv, oMod, oPow, fVar, fC, fCB, fCons, fNil, fCall, oLen, oInt, oMax2, oMin2, seqOf, lstOf, mutOf, fRet, fRetN, fAsg, gN, fAnd, fOr, fNot, fAndV, fOrV, fNotV, fIf, fTup, fLst, oIx, fDrop, fPar, fChain, oIsN, D.isNon, fFor, fRng1, fuelOf, gSubD, rlim,
  oIsi, fInK, fIxK, oCatL, fApp, fPopAt, oTuple, oList, tyD, fIsC, fMake, fMeth, fFldS, fFldAug, fldPut, gFldD, isCls, lkS1, lkS2, lkS3, puts1, puts2, puts3, puts4, puts5, lkM, A_Machine_steps, A_Machine_state, kits, bools, oAll, fItSeq, id, List.all_cons, List.all_nil, c_QUIET, fSl, fNoP, fPart, gTupD, gsCons, gsNil, fProp, fFld, oCatT, eqS, eqI, cut9_3, cut9_37, cut9_13, cut6_4, cut3_2, lkT, lkH, lkK, A_Scheme_threads, A_Scheme_handler, A_Scheme_kinds, c_MOST_WORDS, shW, wtab, ws_eq, beq_self_eq_true, at_2, at_3, at_6, at_9, ix_2, ix_3, ix_6, ix_9, List.mem_singleton,
  Bool.or_true, Bool.or_false, Bool.or_self, Bool.true_or, Bool.false_or, Bool.true_and, Bool.and_true, Bool.false_and, Bool.and_false, List.map_append, List.map_cons, List.map_nil, List.length_cons, List.length_nil, List.replicate, List.cons_append, List.nil_append, List.append_nil, List.getElem?_cons_zero, List.getElem?_cons_succ, List.set_cons_zero, List.set_cons_succ, Nat.reduceAdd, Nat.reduceSub, Nat.reduceLeDiff, Nat.reduceLT, if_true, if_false, Bool.not_true, Bool.not_false, Nat.sub_zero, Nat.sub_self, big, Int.reduceLT, Int.reduceLE, Int.reduceEq, Nat.reduceEqDiff, Int.reduceAdd, Int.reduceSub, Int.reduceMul, Int.reduceMod, Int.reduceDiv, and_self, decide_true, decide_false, Bool.false_eq_true, AS.set_same, AS.set_set, *])
theorem rng_at {lo c : Int} {n i : Nat} (h : i < (rngD lo c n).length) : (rngD lo c n)[i] = .int (lo + (i : Nat) * c) := by
  have e := List.getElem?_eq_getElem h
  rw [rngD_get] at e
  split at e
  · exact (Option.some.inj e).symm
  · cases e
theorem run_ev {M : AS} {d sc : Nat} {ns : List Int} {K a many : Nat} {s : Sch} (h : Drw M d sc ns (K + 12 * many)) (hS : SchL M a s) (S : s.Ok) (h40 : many ≤ 40) :
    ∃ M', A__law_run_right [.ref d, .ref a, .int many] M = some (.bl true, M') ∧ Fr (· = d) M M' := by
  obtain ⟨M1, e1, x1, mc1, q1⟩ := init_ev hS S
  have f1 := Fr.one x1 q1
  have hS1 := hS.fr f1 id
  obtain ⟨_, M2, e2, A, rfl, co2, ho2, f2⟩ := lstart_ev hS1 S
  let M3 := M2.new (.lst [])
  let M4 := M3.new (.lst [])
  have f4 : Fr No M2 M4 := Fr.trans .new .new
  have b1 := f1.1
  have b2 := f2.1
  have hda : d ≠ a := fun e => by
    obtain ⟨b, c, _, _, _, z⟩ := h.ex
    unfold DrA at z
    have z2 := hS.1
    unfold SchAt at z2
    rw [e, z2] at z; cases z
  have hsa : sc ≠ a := fun e => by
    have z := h.scr
    have z2 := hS.1
    unfold SchAt at z2
    rw [e, z2] at z; cases z
  have l1 := h.dl
  have l2 := h.sl
  have l3 := hS.2
  have ls1 : M1.nx = M.nx + 1 := x1
  have I0 : RInv M d sc ns K many a M.nx A.c M2.nx (M2.nx + 1) s 0 M4 := by
    refine ⟨⟨A, [], rfl, rfl, (fun w hw => by cases hw), ?_, co2.fr f4 (fun _ _ z => z), ?_, AS.new_same, fun z o => ?_, fun z o => ?_⟩, ?_, (hS1.fr f2 id).fr f4 id, ?_, Nat.lt_succ_self _, f1.no.trans (f2.no.trans f4.no)⟩
    · exact (mc1.fr f2 id).fr f4 id
    · show (M3.new _).mem M2.nx = _
      rw [AS.new_ne (by show M2.nx ≠ M2.nx + 1; omega)]
      exact AS.new_same
    · have z1 := ho2 z o
      have z2 := co2.lt z o
      refine ⟨?_, ?_, ?_, ?_, ?_, ?_⟩ <;> omega
    · have z1 := ho2 z o
      omega
    · exact (((h.fr f1 id id).fr f2 id id).fr f4 id id).mono (by omega)
    · show M2.nx < M2.nx + 1 + 1
      omega
  have rl : -(2 ^ 62) ≤ (many : Int) ∧ (many : Int) < 2 ^ 62 := ⟨by omega, by omega⟩
  have hlen : (rngD 0 1 (many : Int).toNat).length = many := by unfold rngD; rw [List.length_map, List.length_range]; omega
  let P : Nat → DS → AS → Prop := fun i ds M' => ∃ z7 z8 z9 z10 z11, ds = dsR d a many M.nx A.c M2.nx (M2.nx + 1) z7 z8 z9 z10 z11 ∧ RInv M d sc ns K many a M.nx A.c M2.nx (M2.nx + 1) s i M'
  have H : Res (A__law_run_right [.ref d, .ref a, .int many] M) fun y M' => .bl true = y ∧ Fr (· = d) M M' := by
    unfold A__law_run_right
    refine fnE ?_
    refine seqE (Q := fun ds1 M' => ds1 = [some (.ref d), some (.ref a), some (.int many), some (.ref M.nx), some (.ref A.c), none, none, none, none, none, none, none] ∧ M2 = M') ⟨_, _, ?_, rfl, rfl⟩ ?_
    · clear I0 rl hlen h hS S mc1 hS1 co2 ho2 f1 f2 f4 hda hsa l1 l2 l3 x1 q1 ls1
      walk_at "ev"
    rintro _ _ ⟨rfl, rfl⟩
    refine seqE (Q := fun ds1 M' => ds1 = dsR d a many M.nx A.c M2.nx (M2.nx + 1) none none none none none ∧ M4 = M') ⟨_, _, ?_, rfl, rfl⟩ ?_
    · rfl
    rintro _ _ ⟨rfl, rfl⟩
    refine seqE (Q := fun ds1 M' => P (rngD 0 1 (many : Int).toNat).length ds1 M') (for_inv (xs := rngD 0 1 (many : Int).toNat) (M1 := M4) P ?_ ⟨_, _, _, _, _, rfl, I0⟩ ?_) ?_
    · clear I0 hlen h hS S mc1 hS1 co2 ho2 f1 f2 f4 hda hsa l1 l2 l3 x1 q1 ls1 e1 e2
      unfold dsR
      walk_at "ev"
    · intro i hi ds M' ⟨z7, z8, z9, z10, z11, q, I⟩
      have hi2 : i < many := by rw [hlen] at hi; exact hi
      obtain ⟨ds2, M5, e5, p5⟩ := turn_run S hi2 h40 (by omega) (by omega) hda hsa (by omega) (by omega) (by omega) (by omega) (by omega) (by omega) (by omega) (by omega) (by omega) (Nat.le_refl _) (by omega) (by omega) I z8 z9 z10 z11
      refine ⟨dsR d a many M.nx A.c M2.nx (M2.nx + 1) (some (.int i)) z8 z9 z10 z11, M', ds2, M5, ?_, e5, p5⟩
      subst q
      rw [rng_at hi]
      have : (0 : Int) + (i : Nat) * 1 = (i : Int) := by omega
      rw [this]
      rfl
    rintro ds5 M5 ⟨z7, z8, z9, z10, z11, rfl, I⟩
    rw [hlen] at I
    obtain ⟨⟨B, ws, hc, hwl, hwo, mc, co, wlm, tlm, own, ownl⟩, dr, sh, lw, lt, fr⟩ := I
    obtain ⟨t1, M6, e6, m6, f6⟩ := shown_ev (X := .ref M2.nx) sh S (.inr ⟨_, rfl, wlm, lw⟩) (by omega) hwo
    obtain ⟨t2, M7, e7, m7, f7⟩ := shown_ev (X := .tup (ws.map Wd.d)) (sh.fr f6 id) S (.inl rfl) (by omega) hwo
    have g : Gds 63 (runS s (begS s) ws) := gds_run (k := 62) ws (begS s)
    have tl6 := f6.at tlm lt id
    have tl7 := f7.at tl6 (Nat.lt_of_lt_of_le lt f6.1) id
    have wl6 := f6.at wlm lw id
    have q6 := Gds.eqL (n := false) (M := M6) g (x := .ref t1) (y := .ref (M2.nx + 1)) (by simp only [lstOf, m6]) (by simp only [lstOf, tl6])
    have q7 := Gds.eqL (n := false) (M := M7) g (x := .ref t2) (y := .ref (M2.nx + 1)) (by simp only [lstOf, m7]) (by simp only [lstOf, tl7])
    refine retE ⟨_, _, ?_, rfl, fr.trans (f6.no.trans f7.no)⟩
    clear dr sh lw lt fr g f6 f7 tl6 tl7 m6 m7 tlm wlm co mc own ownl hwo hwl I0 hlen h hS S mc1 hS1 co2 ho2 f1 f2 f4 hda hsa l1 l2 l3 x1 q1 ls1 e1 e2 rl hc
    generalize ws.map Wd.d = wds at *
    unfold dsR
    walk_at "ev"
  obtain ⟨_, M', e, rfl, f⟩ := H
  exact ⟨M', e, f⟩
theorem rng3_ok : ∀ j : Fin 25, 1 ≤ j.val → Builtin.Range.small 0 (j.val : Int) 8 = true ∧ 0 ≤ Builtin.Range.rangeSize 0 (j.val : Int) 8 := by decide +kernel
theorem law_ev {M : AS} {ns : List Int} (h0 : M.mem 0 = some (.fro (ns.map D.int))) (h1 : 0 < M.nx) : ∃ M', A_law [.ref 0] M = some (.bl true, M') := by
  let P : Nat → DS → AS → Prop := fun i ds M' => M'.mem 0 = some (.fro (ns.map D.int)) ∧ 0 < M'.nx ∧ ∃ x y z, ds = [some (.ref 0), x, y, z]
  obtain ⟨j, hj1, hj2, hj⟩ : ∃ j : Nat, 1 ≤ j ∧ j < 25 ∧ (if (if (((ns.map D.int).length : Nat) : Int) < 24 then (((ns.map D.int).length : Nat) : Int) else 24) > 1 then (if (((ns.map D.int).length : Nat) : Int) < 24 then (((ns.map D.int).length : Nat) : Int) else 24) else 1) = (j : Int) := by
    generalize (ns.map D.int).length = n
    by_cases a1 : (n : Int) < 24
    · rw [if_pos a1]
      by_cases a2 : (n : Int) > 1
      · exact ⟨n, by omega, by omega, if_pos a2⟩
      · exact ⟨1, by omega, by omega, if_neg a2⟩
    · rw [if_neg a1]
      exact ⟨24, by omega, by omega, rfl⟩
  have hr := rng3_ok ⟨j, hj2⟩ hj1
  simp only [] at hr
  have H : Res (A_law [.ref 0] M) fun y M' => .bl true = y := by
    unfold A_law
    refine fnE ?_
    refine seqE (Q := fun ds1 M' => P (rngD 0 8 (Builtin.Range.rangeSize 0 (j : Int) 8).toNat).length ds1 M') (for_inv (xs := rngD 0 8 (Builtin.Range.rangeSize 0 (j : Int) 8).toNat) (M1 := M) P ?_ ⟨h0, h1, _, _, _, rfl⟩ ?_) ?_
    · have c8 : (8 : Int) ≠ 0 ∧ (8 : Int).natAbs < 1073741824 := by decide
      have hc : (8 : Int) ≠ 0 ∧ (8 : Int).natAbs < 1073741824 ∧ Builtin.Range.small 0 (j : Int) 8 = true ∧ 0 ≤ Builtin.Range.rangeSize 0 (j : Int) 8 := ⟨c8.1, c8.2, hr.1, hr.2⟩
      have hm : fCB oMax2 (fCons (fC (.int 1)) (fCons (fCB oMin2 (fCons (fC (.int 24)) (fCons (fCB oLen (fCons (fVar 0) fNil)) fNil))) fNil)) [some (.ref 0), none, none, none] M = some (.int j, M) := by
        rw [← hj]
        clear hr hj hc c8 P hj1 hj2
        walk_at "ev"
      show fRng3 _ [some (.ref 0), none, none, none] M = _
      simp only [fRng3, fCons, fC, fNil, hm, if_pos hc]
    · intro i hi ds M' ⟨q0, q1, x, y, z, q⟩
      let M1 := M'.new (.lst [.ref 0, .int (0 + (i : Nat) * 8), .int 0])
      have D1 : Drw M1 M'.nx 0 ns 99999 := ⟨⟨0 + (i : Nat) * 8, 0, by omega, by omega, by omega, AS.new_same⟩, (AS.new_ne (by omega)).trans q0, Nat.lt_succ_self _, Nat.lt_succ_of_lt q1⟩
      obtain ⟨s, a, M2, e2, S, s2, D2, f2, _⟩ := lscheme_ev (K := 99999 - 65) (D1.mono (by omega))
      obtain ⟨r, M3, e3, hr3, D3, f3⟩ := next_dr (K := 99999 - 66) (D2.mono (by omega)) (b := 30) (by decide)
      have hda : a ≠ M'.nx := fun e => by
        obtain ⟨b, c, _, _, _, z⟩ := D2.ex
        unfold DrA at z
        have z2 := s2.1
        unfold SchAt at z2
        rw [← e, z2] at z; cases z
      have s3 := s2.fr f3 hda
      obtain ⟨M4, e4, f4⟩ := run_ev (K := 0) (many := 10 + r) (D3.mono (by omega)) s3 S (by omega)
      have e4 : A__law_run_right [.ref M'.nx, .ref a, .int (10 + (r : Int))] M3 = some (.bl true, M4) := e4
      have ff : Fr (· = M'.nx) M1 M4 := f2.trans (f3.trans f4)
      refine ⟨[some (.ref 0), some (.int (0 + (i : Nat) * 8)), y, z], M', [some (.ref 0), some (.int (0 + (i : Nat) * 8)), some (.ref M'.nx), some (.ref a)], M4, ?_, ?_, ff.at ((AS.new_ne (by omega)).trans q0 : M1.mem 0 = _) (Nat.lt_succ_of_lt q1) (by omega), Nat.lt_of_lt_of_le (Nat.lt_succ_of_lt q1) ff.1, _, _, _, rfl⟩
      · subst q
        rw [rng_at hi]
        rfl
      · clear ff f2 f3 f4 s3 s2 D1 D2 D3 S hr3 hda hr hj1 hj2 hj
        have e2 : A__law_scheme [.ref M'.nx, .int 3, .int 5, c_ALL_KINDS] (M'.new (.lst [.ref 0, .int (0 + (i : Nat) * 8), .int 0])) = some (.ref a, M2) := e2
        generalize (0 : Int) + (i : Nat) * 8 = by_ at *
        clear q0 q1 q h0 h1
        walk_at "ev"
    rintro ds5 M5 ⟨_, _, x, y, z, rfl⟩
    exact retE ⟨_, _, rfl, rfl⟩
  obtain ⟨_, M', e, rfl⟩ := H
  exact ⟨M', e⟩
end SM
namespace SM
open PySem L2 AL
def clOf (xs : List Addr) : Nat → Addr := fun n => xs.getD n 0
/-- the store at the law's entry -/
def M0 (ns : List Int) : AS := ⟨1, fun n => if n = 0 then some (.fro (ns.map D.int)) else none⟩
def spLaw (K : PySem.W.Frag) : Sp := fun vs H Q _ => ∃ (a : Addr) (ns : List Int), vs = [.ref a] ∧ Only H ∧ SqL K H a (ns.map V.int) ∧ ns.length ≤ 63 ∧ ∀ H', Q (.bl true) H'
theorem reps_ints {K : PySem.W.Frag} {ρ : Rho} {H : Hp} : ∀ ns : List Int, Reps K ρ H (ns.map V.int) (ns.map D.int)
  | [] => .nil
  | n :: ns => .cons (.int n) (reps_ints ns)
theorem spLaw_of {K : PySem.W.Frag} {cl : Nat → Addr} (ht : ∀ ns : List Int, ns.length ≤ 63 → ∃ M', A_law [.ref 0] (M0 ns) = some (.bl true, M')) : ∀ vs H Q E, spLaw K vs H Q E → cF K cl 1 A_law vs H Q E := by
  rintro vs H Q E ⟨a, ns, rfl, hO, hS, hl, k⟩
  obtain ⟨M', e⟩ := ht ns hl
  refine ⟨fun n => if n = 0 then some a else none, [.ref 0], M0 ns, .bl true, M', rfl, .cons (.ref (if_pos rfl)) .nil, ⟨fun n b h => ?_, fun n c h => ?_, fun n m b c c' h1 h2 h3 h4 m1 m2 => ?_⟩, e, fun ρ' v H' x A r => ?_⟩
  · have h : (if n = 0 then some a else none) = some b := h
    split at h
    · next h0 => rw [h0]; exact Nat.zero_lt_one
    · cases h
  · have h : (if n = 0 then some (Cell.fro (ns.map D.int)) else none) = some c := h
    split at h
    · next h0 =>
      cases h
      refine ⟨a, if_pos h0, ns.map V.int, ?_, reps_ints ns⟩
      rcases hS with (h | ⟨o, h⟩) | h
      · rcases hO a with z | ⟨o, xs, z⟩
        · rw [z] at h; cases h
        · rw [z] at h; cases h
      · exact .inl ⟨o, h⟩
      · exact .inr h
    · cases h
  · have h3 : (if n = 0 then some (Cell.fro (ns.map D.int)) else none) = some c := h3
    split at h3
    · cases h3; exact m1.elim
    · cases h3
  · cases r
    exact k H'
theorem law_true : ∀ ns : List Int, ns.length ≤ 63 → ∃ M', A_law [.ref 0] (M0 ns) = some (.bl true, M') := fun ns _ => law_ev rfl Nat.zero_lt_one
theorem all_mk {l : PySem.W.OpenLaw} {w : World} {K : PySem.W.Frag} {h : Heap} {mg : Str → Option Value} {fa : Addr} (X : K.In h) (G : h.Ns mainGlobals mg) (hfa : mg "law" = some (.ref fa))
    {C0 : Addr} {C1 : Addr} {f__law_cell_at : Addr} {od__law_cell_at an__law_cell_at : Option Addr} {sl__law_cell_at : Array (Option Value)} {oc__law_cell_at kV__law_cell_at dc__law_cell_at pm__law_cell_at cd__law_cell_at ct__law_cell_at : Value} {f__law_draw : Addr} {od__law_draw an__law_draw : Option Addr} {sl__law_draw : Array (Option Value)} {oc__law_draw kV__law_draw dc__law_draw pm__law_draw cd__law_draw ct__law_draw : Value} {f__law_number : Addr} {od__law_number an__law_number : Option Addr} {sl__law_number : Array (Option Value)} {oc__law_number kV__law_number dc__law_number pm__law_number cd__law_number ct__law_number : Value} {f__law_next : Addr} {od__law_next an__law_next : Option Addr} {sl__law_next : Array (Option Value)} {oc__law_next kV__law_next dc__law_next pm__law_next cd__law_next ct__law_next : Value} {f_is_number : Addr} {od_is_number an_is_number : Option Addr} {sl_is_number : Array (Option Value)} {oc_is_number kV_is_number dc_is_number pm_is_number cd_is_number ct_is_number : Value} {f_is_instruction : Addr} {od_is_instruction an_is_instruction : Option Addr} {sl_is_instruction : Array (Option Value)} {oc_is_instruction kV_is_instruction dc_is_instruction pm_is_instruction cd_is_instruction ct_is_instruction : Value} {f_is_code : Addr} {od_is_code an_is_code : Option Addr} {sl_is_code : Array (Option Value)} {oc_is_code kV_is_code dc_is_code pm_is_code cd_is_code ct_is_code : Value} {f_are_threads : Addr} {od_are_threads an_are_threads : Option Addr} {sl_are_threads : Array (Option Value)} {oc_are_threads kV_are_threads dc_are_threads pm_are_threads cd_are_threads ct_are_threads : Value} {f_is_kinds_of : Addr} {od_is_kinds_of an_is_kinds_of : Option Addr} {sl_is_kinds_of : Array (Option Value)} {oc_is_kinds_of kV_is_kinds_of dc_is_kinds_of pm_is_kinds_of cd_is_kinds_of ct_is_kinds_of : Value} {f_Scheme_init : Addr} {od_Scheme_init an_Scheme_init : Option Addr} {sl_Scheme_init : Array (Option Value)} {oc_Scheme_init kV_Scheme_init dc_Scheme_init pm_Scheme_init cd_Scheme_init ct_Scheme_init : Value} {f__law_pick : Addr} {od__law_pick an__law_pick : Option Addr} {sl__law_pick : Array (Option Value)} {oc__law_pick kV__law_pick dc__law_pick pm__law_pick cd__law_pick ct__law_pick : Value} {f__law_instruction : Addr} {od__law_instruction an__law_instruction : Option Addr} {sl__law_instruction : Array (Option Value)} {oc__law_instruction kV__law_instruction dc__law_instruction pm__law_instruction cd__law_instruction ct__law_instruction : Value} {f__law_code : Addr} {od__law_code an__law_code : Option Addr} {sl__law_code : Array (Option Value)} {oc__law_code kV__law_code dc__law_code pm__law_code cd__law_code ct__law_code : Value} {f__law_scheme : Addr} {od__law_scheme an__law_scheme : Option Addr} {sl__law_scheme : Array (Option Value)} {oc__law_scheme kV__law_scheme dc__law_scheme pm__law_scheme cd__law_scheme ct__law_scheme : Value} {f_Scheme_kinds : Addr} {od_Scheme_kinds an_Scheme_kinds : Option Addr} {sl_Scheme_kinds : Array (Option Value)} {oc_Scheme_kinds kV_Scheme_kinds dc_Scheme_kinds pm_Scheme_kinds cd_Scheme_kinds ct_Scheme_kinds : Value} {p_Scheme_kinds : Addr} {r_Scheme_kinds : List Value} {f_check_scheme : Addr} {od_check_scheme an_check_scheme : Option Addr} {sl_check_scheme : Array (Option Value)} {oc_check_scheme kV_check_scheme dc_check_scheme pm_check_scheme cd_check_scheme ct_check_scheme : Value} {f_has_parts : Addr} {od_has_parts an_has_parts : Option Addr} {sl_has_parts : Array (Option Value)} {oc_has_parts kV_has_parts dc_has_parts pm_has_parts cd_has_parts ct_has_parts : Value} {f_is_world : Addr} {od_is_world an_is_world : Option Addr} {sl_is_world : Array (Option Value)} {oc_is_world kV_is_world dc_is_world pm_is_world cd_is_world ct_is_world : Value} {f_Scheme_threads : Addr} {od_Scheme_threads an_Scheme_threads : Option Addr} {sl_Scheme_threads : Array (Option Value)} {oc_Scheme_threads kV_Scheme_threads dc_Scheme_threads pm_Scheme_threads cd_Scheme_threads ct_Scheme_threads : Value} {p_Scheme_threads : Addr} {r_Scheme_threads : List Value} {f_beginning : Addr} {od_beginning an_beginning : Option Addr} {sl_beginning : Array (Option Value)} {oc_beginning kV_beginning dc_beginning pm_beginning cd_beginning ct_beginning : Value} {f_Machine_init : Addr} {od_Machine_init an_Machine_init : Option Addr} {sl_Machine_init : Array (Option Value)} {oc_Machine_init kV_Machine_init dc_Machine_init pm_Machine_init cd_Machine_init ct_Machine_init : Value} {f_Machine_steps : Addr} {od_Machine_steps an_Machine_steps : Option Addr} {sl_Machine_steps : Array (Option Value)} {oc_Machine_steps kV_Machine_steps dc_Machine_steps pm_Machine_steps cd_Machine_steps ct_Machine_steps : Value} {p_Machine_steps : Addr} {r_Machine_steps : List Value} {f_Machine_state : Addr} {od_Machine_state an_Machine_state : Option Addr} {sl_Machine_state : Array (Option Value)} {oc_Machine_state kV_Machine_state dc_Machine_state pm_Machine_state cd_Machine_state ct_Machine_state : Value} {p_Machine_state : Addr} {r_Machine_state : List Value} {f_Scheme_handler : Addr} {od_Scheme_handler an_Scheme_handler : Option Addr} {sl_Scheme_handler : Array (Option Value)} {oc_Scheme_handler kV_Scheme_handler dc_Scheme_handler pm_Scheme_handler cd_Scheme_handler ct_Scheme_handler : Value} {p_Scheme_handler : Addr} {r_Scheme_handler : List Value} {f_turn : Addr} {od_turn an_turn : Option Addr} {sl_turn : Array (Option Value)} {oc_turn kV_turn dc_turn pm_turn cd_turn ct_turn : Value} {f_place_after : Addr} {od_place_after an_place_after : Option Addr} {sl_place_after : Array (Option Value)} {oc_place_after kV_place_after dc_place_after pm_place_after cd_place_after ct_place_after : Value} {f_hand_after : Addr} {od_hand_after an_hand_after : Option Addr} {sl_hand_after : Array (Option Value)} {oc_hand_after kV_hand_after dc_hand_after pm_hand_after cd_hand_after ct_hand_after : Value} {f_replaced : Addr} {od_replaced an_replaced : Option Addr} {sl_replaced : Array (Option Value)} {oc_replaced kV_replaced dc_replaced pm_replaced cd_replaced ct_replaced : Value} {f_cells_after : Addr} {od_cells_after an_cells_after : Option Addr} {sl_cells_after : Array (Option Value)} {oc_cells_after kV_cells_after dc_cells_after pm_cells_after cd_cells_after ct_cells_after : Value} {f_instructed : Addr} {od_instructed an_instructed : Option Addr} {sl_instructed : Array (Option Value)} {oc_instructed kV_instructed dc_instructed pm_instructed cd_instructed ct_instructed : Value} {f_before_instruction : Addr} {od_before_instruction an_before_instruction : Option Addr} {sl_before_instruction : Array (Option Value)} {oc_before_instruction kV_before_instruction dc_before_instruction pm_before_instruction cd_before_instruction ct_before_instruction : Value} {f_stepped : Addr} {od_stepped an_stepped : Option Addr} {sl_stepped : Array (Option Value)} {oc_stepped kV_stepped dc_stepped pm_stepped cd_stepped ct_stepped : Value} {f_Machine_step : Addr} {od_Machine_step an_Machine_step : Option Addr} {sl_Machine_step : Array (Option Value)} {oc_Machine_step kV_Machine_step dc_Machine_step pm_Machine_step cd_Machine_step ct_Machine_step : Value} {f_upcoming : Addr} {od_upcoming an_upcoming : Option Addr} {sl_upcoming : Array (Option Value)} {oc_upcoming kV_upcoming dc_upcoming pm_upcoming cd_upcoming ct_upcoming : Value} {f_Machine_next : Addr} {od_Machine_next an_Machine_next : Option Addr} {sl_Machine_next : Array (Option Value)} {oc_Machine_next kV_Machine_next dc_Machine_next pm_Machine_next cd_Machine_next ct_Machine_next : Value} {f_machine_at : Addr} {od_machine_at an_machine_at : Option Addr} {sl_machine_at : Array (Option Value)} {oc_machine_at kV_machine_at dc_machine_at pm_machine_at cd_machine_at ct_machine_at : Value} {f_Machine_copy : Addr} {od_Machine_copy an_Machine_copy : Option Addr} {sl_Machine_copy : Array (Option Value)} {oc_Machine_copy kV_Machine_copy dc_Machine_copy pm_Machine_copy cd_Machine_copy ct_Machine_copy : Value} {f_Scheme_eq : Addr} {od_Scheme_eq an_Scheme_eq : Option Addr} {sl_Scheme_eq : Array (Option Value)} {oc_Scheme_eq kV_Scheme_eq dc_Scheme_eq pm_Scheme_eq cd_Scheme_eq ct_Scheme_eq : Value} {f_Machine_eq : Addr} {od_Machine_eq an_Machine_eq : Option Addr} {sl_Machine_eq : Array (Option Value)} {oc_Machine_eq kV_Machine_eq dc_Machine_eq pm_Machine_eq cd_Machine_eq ct_Machine_eq : Value} {f_check_worlds : Addr} {od_check_worlds an_check_worlds : Option Addr} {sl_check_worlds : Array (Option Value)} {oc_check_worlds kV_check_worlds dc_check_worlds pm_check_worlds cd_check_worlds ct_check_worlds : Value} {f_check_run : Addr} {od_check_run an_check_run : Option Addr} {sl_check_run : Array (Option Value)} {oc_check_run kV_check_run dc_check_run pm_check_run cd_check_run ct_check_run : Value} {f_shown_by : Addr} {od_shown_by an_shown_by : Option Addr} {sl_shown_by : Array (Option Value)} {oc_shown_by kV_shown_by dc_shown_by pm_shown_by cd_shown_by ct_shown_by : Value} {f_shown : Addr} {od_shown an_shown : Option Addr} {sl_shown : Array (Option Value)} {oc_shown kV_shown dc_shown pm_shown cd_shown ct_shown : Value} {f__law_world : Addr} {od__law_world an__law_world : Option Addr} {sl__law_world : Array (Option Value)} {oc__law_world kV__law_world dc__law_world pm__law_world cd__law_world ct__law_world : Value} {f__law_start : Addr} {od__law_start an__law_start : Option Addr} {sl__law_start : Array (Option Value)} {oc__law_start kV__law_start dc__law_start pm__law_start cd__law_start ct__law_start : Value} {f__law_state : Addr} {od__law_state an__law_state : Option Addr} {sl__law_state : Array (Option Value)} {oc__law_state kV__law_state dc__law_state pm__law_state cd__law_state ct__law_state : Value} {f__law_meet : Addr} {od__law_meet an__law_meet : Option Addr} {sl__law_meet : Array (Option Value)} {oc__law_meet kV__law_meet dc__law_meet pm__law_meet cd__law_meet ct__law_meet : Value} {f__law_brought : Addr} {od__law_brought an__law_brought : Option Addr} {sl__law_brought : Array (Option Value)} {oc__law_brought kV__law_brought dc__law_brought pm__law_brought cd__law_brought ct__law_brought : Value} {f__law_step : Addr} {od__law_step an__law_step : Option Addr} {sl__law_step : Array (Option Value)} {oc__law_step kV__law_step dc__law_step pm__law_step cd__law_step ct__law_step : Value} {f__law_core : Addr} {od__law_core an__law_core : Option Addr} {sl__law_core : Array (Option Value)} {oc__law_core kV__law_core dc__law_core pm__law_core cd__law_core ct__law_core : Value} {f__law_next_one : Addr} {od__law_next_one an__law_next_one : Option Addr} {sl__law_next_one : Array (Option Value)} {oc__law_next_one kV__law_next_one dc__law_next_one pm__law_next_one cd__law_next_one ct__law_next_one : Value} {f__law_run_right : Addr} {od__law_run_right an__law_run_right : Option Addr} {sl__law_run_right : Array (Option Value)} {oc__law_run_right kV__law_run_right dc__law_run_right pm__law_run_right cd__law_run_right ct__law_run_right : Value} {f_law : Addr} {od_law an_law : Option Addr} {sl_law : Array (Option Value)} {oc_law kV_law dc_law pm_law cd_law ct_law : Value} {T_ALL_KINDS : Addr} {od_ALL_KINDS : Option Addr} {n_ALL_KINDS : Nat} {sl_ALL_KINDS : Array (Option Value)} {tk0_ALL_KINDS tk1_ALL_KINDS tk2_ALL_KINDS tk3_ALL_KINDS tk4_ALL_KINDS tk5_ALL_KINDS : Tok} {T_QUIET : Addr} {od_QUIET : Option Addr} {n_QUIET : Nat} {sl_QUIET : Array (Option Value)} {tk0_QUIET tk1_QUIET : Tok} {tk0_MOST_WORDS : Tok} {tk0_LONGEST_RUN : Tok} {T_GREATEST : Addr} {es_GREATEST : Array DictEntry} {n_GREATEST : Nat} {tv0_GREATEST : Tok} {tv1_GREATEST : Tok} {tv2_GREATEST : Tok} {tv3_GREATEST : Tok} {tv4_GREATEST : Tok} {tv5_GREATEST : Tok} {tv6_GREATEST : Tok} {tv7_GREATEST : Tok} {tv8_GREATEST : Tok} {tv9_GREATEST : Tok} {tv10_GREATEST : Tok} {tv11_GREATEST : Tok} {tv12_GREATEST : Tok}
    (a__law_cell_at : PySem.W.nsIn K mainGlobals "_law_cell_at" = some (some (.ref f__law_cell_at)))
    (l__law_cell_at : K.lookup f__law_cell_at = some ⟨oc__law_cell_at, od__law_cell_at, .func (PySem.W.fnOf "_law_cell_at" "_law_cell_at" (defArgs s__law_cell_at) (defBody s__law_cell_at) (defScope s__law_cell_at) .none kV__law_cell_at dc__law_cell_at pm__law_cell_at an__law_cell_at cd__law_cell_at ct__law_cell_at), sl__law_cell_at⟩)
    (c__law_cell_at : PySem.W.codeIn K cd__law_cell_at "_law_cell_at" = true)
    (k__law_cell_at : PySem.W.keepIn K (.ref f__law_cell_at) = true)
    (a__law_draw : PySem.W.nsIn K mainGlobals "_law_draw" = some (some (.ref f__law_draw)))
    (l__law_draw : K.lookup f__law_draw = some ⟨oc__law_draw, od__law_draw, .func (PySem.W.fnOf "_law_draw" "_law_draw" (defArgs s__law_draw) (defBody s__law_draw) (defScope s__law_draw) .none kV__law_draw dc__law_draw pm__law_draw an__law_draw cd__law_draw ct__law_draw), sl__law_draw⟩)
    (c__law_draw : PySem.W.codeIn K cd__law_draw "_law_draw" = true)
    (k__law_draw : PySem.W.keepIn K (.ref f__law_draw) = true)
    (a__law_number : PySem.W.nsIn K mainGlobals "_law_number" = some (some (.ref f__law_number)))
    (l__law_number : K.lookup f__law_number = some ⟨oc__law_number, od__law_number, .func (PySem.W.fnOf "_law_number" "_law_number" (defArgs s__law_number) (defBody s__law_number) (defScope s__law_number) .none kV__law_number dc__law_number pm__law_number an__law_number cd__law_number ct__law_number), sl__law_number⟩)
    (c__law_number : PySem.W.codeIn K cd__law_number "_law_number" = true)
    (k__law_number : PySem.W.keepIn K (.ref f__law_number) = true)
    (a__law_next : PySem.W.nsIn K mainGlobals "_law_next" = some (some (.ref f__law_next)))
    (l__law_next : K.lookup f__law_next = some ⟨oc__law_next, od__law_next, .func (PySem.W.fnOf "_law_next" "_law_next" (defArgs s__law_next) (defBody s__law_next) (defScope s__law_next) .none kV__law_next dc__law_next pm__law_next an__law_next cd__law_next ct__law_next), sl__law_next⟩)
    (c__law_next : PySem.W.codeIn K cd__law_next "_law_next" = true)
    (k__law_next : PySem.W.keepIn K (.ref f__law_next) = true)
    (a_is_number : PySem.W.nsIn K mainGlobals "is_number" = some (some (.ref f_is_number)))
    (l_is_number : K.lookup f_is_number = some ⟨oc_is_number, od_is_number, .func (PySem.W.fnOf "is_number" "is_number" (defArgs s_is_number) (defBody s_is_number) (defScope s_is_number) .none kV_is_number dc_is_number pm_is_number an_is_number cd_is_number ct_is_number), sl_is_number⟩)
    (c_is_number : PySem.W.codeIn K cd_is_number "is_number" = true)
    (k_is_number : PySem.W.keepIn K (.ref f_is_number) = true)
    (a_is_instruction : PySem.W.nsIn K mainGlobals "is_instruction" = some (some (.ref f_is_instruction)))
    (l_is_instruction : K.lookup f_is_instruction = some ⟨oc_is_instruction, od_is_instruction, .func (PySem.W.fnOf "is_instruction" "is_instruction" (defArgs s_is_instruction) (defBody s_is_instruction) (defScope s_is_instruction) .none kV_is_instruction dc_is_instruction pm_is_instruction an_is_instruction cd_is_instruction ct_is_instruction), sl_is_instruction⟩)
    (c_is_instruction : PySem.W.codeIn K cd_is_instruction "is_instruction" = true)
    (k_is_instruction : PySem.W.keepIn K (.ref f_is_instruction) = true)
    (a_is_code : PySem.W.nsIn K mainGlobals "is_code" = some (some (.ref f_is_code)))
    (l_is_code : K.lookup f_is_code = some ⟨oc_is_code, od_is_code, .func (PySem.W.fnOf "is_code" "is_code" (defArgs s_is_code) (defBody s_is_code) (defScope s_is_code) .none kV_is_code dc_is_code pm_is_code an_is_code cd_is_code ct_is_code), sl_is_code⟩)
    (c_is_code : PySem.W.codeIn K cd_is_code "is_code" = true)
    (k_is_code : PySem.W.keepIn K (.ref f_is_code) = true)
    (a_are_threads : PySem.W.nsIn K mainGlobals "are_threads" = some (some (.ref f_are_threads)))
    (l_are_threads : K.lookup f_are_threads = some ⟨oc_are_threads, od_are_threads, .func (PySem.W.fnOf "are_threads" "are_threads" (defArgs s_are_threads) (defBody s_are_threads) (defScope s_are_threads) .none kV_are_threads dc_are_threads pm_are_threads an_are_threads cd_are_threads ct_are_threads), sl_are_threads⟩)
    (c_are_threads : PySem.W.codeIn K cd_are_threads "are_threads" = true)
    (k_are_threads : PySem.W.keepIn K (.ref f_are_threads) = true)
    (a_is_kinds_of : PySem.W.nsIn K mainGlobals "is_kinds_of" = some (some (.ref f_is_kinds_of)))
    (l_is_kinds_of : K.lookup f_is_kinds_of = some ⟨oc_is_kinds_of, od_is_kinds_of, .func (PySem.W.fnOf "is_kinds_of" "is_kinds_of" (defArgs s_is_kinds_of) (defBody s_is_kinds_of) (defScope s_is_kinds_of) .none kV_is_kinds_of dc_is_kinds_of pm_is_kinds_of an_is_kinds_of cd_is_kinds_of ct_is_kinds_of), sl_is_kinds_of⟩)
    (c_is_kinds_of : PySem.W.codeIn K cd_is_kinds_of "is_kinds_of" = true)
    (k_is_kinds_of : PySem.W.keepIn K (.ref f_is_kinds_of) = true)
    (a_Scheme_init : PySem.W.findIn K (.ref C0) "__init__" = some (some (.ref f_Scheme_init)))
    (i_Scheme_init : PySem.W.isFn K (.ref f_Scheme_init) = true)
    (l_Scheme_init : K.lookup f_Scheme_init = some ⟨oc_Scheme_init, od_Scheme_init, .func (PySem.W.fnOf "__init__" "Scheme.__init__" (defArgs s_Scheme_init) (defBody s_Scheme_init) (defScope s_Scheme_init) .none kV_Scheme_init dc_Scheme_init pm_Scheme_init an_Scheme_init cd_Scheme_init ct_Scheme_init), sl_Scheme_init⟩)
    (c_Scheme_init : PySem.W.codeIn K cd_Scheme_init "Scheme.__init__" = true)
    (k_Scheme_init : PySem.W.keepIn K (.ref f_Scheme_init) = true)
    (a__law_pick : PySem.W.nsIn K mainGlobals "_law_pick" = some (some (.ref f__law_pick)))
    (l__law_pick : K.lookup f__law_pick = some ⟨oc__law_pick, od__law_pick, .func (PySem.W.fnOf "_law_pick" "_law_pick" (defArgs s__law_pick) (defBody s__law_pick) (defScope s__law_pick) .none kV__law_pick dc__law_pick pm__law_pick an__law_pick cd__law_pick ct__law_pick), sl__law_pick⟩)
    (c__law_pick : PySem.W.codeIn K cd__law_pick "_law_pick" = true)
    (k__law_pick : PySem.W.keepIn K (.ref f__law_pick) = true)
    (a__law_instruction : PySem.W.nsIn K mainGlobals "_law_instruction" = some (some (.ref f__law_instruction)))
    (l__law_instruction : K.lookup f__law_instruction = some ⟨oc__law_instruction, od__law_instruction, .func (PySem.W.fnOf "_law_instruction" "_law_instruction" (defArgs s__law_instruction) (defBody s__law_instruction) (defScope s__law_instruction) .none kV__law_instruction dc__law_instruction pm__law_instruction an__law_instruction cd__law_instruction ct__law_instruction), sl__law_instruction⟩)
    (c__law_instruction : PySem.W.codeIn K cd__law_instruction "_law_instruction" = true)
    (k__law_instruction : PySem.W.keepIn K (.ref f__law_instruction) = true)
    (a__law_code : PySem.W.nsIn K mainGlobals "_law_code" = some (some (.ref f__law_code)))
    (l__law_code : K.lookup f__law_code = some ⟨oc__law_code, od__law_code, .func (PySem.W.fnOf "_law_code" "_law_code" (defArgs s__law_code) (defBody s__law_code) (defScope s__law_code) .none kV__law_code dc__law_code pm__law_code an__law_code cd__law_code ct__law_code), sl__law_code⟩)
    (c__law_code : PySem.W.codeIn K cd__law_code "_law_code" = true)
    (k__law_code : PySem.W.keepIn K (.ref f__law_code) = true)
    (a__law_scheme : PySem.W.nsIn K mainGlobals "_law_scheme" = some (some (.ref f__law_scheme)))
    (l__law_scheme : K.lookup f__law_scheme = some ⟨oc__law_scheme, od__law_scheme, .func (PySem.W.fnOf "_law_scheme" "_law_scheme" (defArgs s__law_scheme) (defBody s__law_scheme) (defScope s__law_scheme) .none kV__law_scheme dc__law_scheme pm__law_scheme an__law_scheme cd__law_scheme ct__law_scheme), sl__law_scheme⟩)
    (c__law_scheme : PySem.W.codeIn K cd__law_scheme "_law_scheme" = true)
    (k__law_scheme : PySem.W.keepIn K (.ref f__law_scheme) = true)
    (a_Scheme_kinds : PySem.W.findIn K (.ref C0) "kinds" = some (some (.ref p_Scheme_kinds)))
    (g_Scheme_kinds : PySem.W.specialIn K (.ref p_Scheme_kinds) "__get__" = some (some (.builtin "property.__get__")))
    (tk_Scheme_kinds : PySem.W.takesIn K (.ref p_Scheme_kinds) = some true)
    (rc_Scheme_kinds : PySem.W.recIn K p_Scheme_kinds "property" = some (.ref f_Scheme_kinds :: r_Scheme_kinds))
    (l_Scheme_kinds : K.lookup f_Scheme_kinds = some ⟨oc_Scheme_kinds, od_Scheme_kinds, .func (PySem.W.fnOf "kinds" "Scheme.kinds" (defArgs s_Scheme_kinds) (defBody s_Scheme_kinds) (defScope s_Scheme_kinds) .none kV_Scheme_kinds dc_Scheme_kinds pm_Scheme_kinds an_Scheme_kinds cd_Scheme_kinds ct_Scheme_kinds), sl_Scheme_kinds⟩)
    (c_Scheme_kinds : PySem.W.codeIn K cd_Scheme_kinds "Scheme.kinds" = true)
    (k_Scheme_kinds : PySem.W.keepIn K (.ref f_Scheme_kinds) = true)
    (a_check_scheme : PySem.W.nsIn K mainGlobals "check_scheme" = some (some (.ref f_check_scheme)))
    (l_check_scheme : K.lookup f_check_scheme = some ⟨oc_check_scheme, od_check_scheme, .func (PySem.W.fnOf "check_scheme" "check_scheme" (defArgs s_check_scheme) (defBody s_check_scheme) (defScope s_check_scheme) .none kV_check_scheme dc_check_scheme pm_check_scheme an_check_scheme cd_check_scheme ct_check_scheme), sl_check_scheme⟩)
    (c_check_scheme : PySem.W.codeIn K cd_check_scheme "check_scheme" = true)
    (k_check_scheme : PySem.W.keepIn K (.ref f_check_scheme) = true)
    (a_has_parts : PySem.W.nsIn K mainGlobals "has_parts" = some (some (.ref f_has_parts)))
    (l_has_parts : K.lookup f_has_parts = some ⟨oc_has_parts, od_has_parts, .func (PySem.W.fnOf "has_parts" "has_parts" (defArgs s_has_parts) (defBody s_has_parts) (defScope s_has_parts) .none kV_has_parts dc_has_parts pm_has_parts an_has_parts cd_has_parts ct_has_parts), sl_has_parts⟩)
    (c_has_parts : PySem.W.codeIn K cd_has_parts "has_parts" = true)
    (k_has_parts : PySem.W.keepIn K (.ref f_has_parts) = true)
    (a_is_world : PySem.W.nsIn K mainGlobals "is_world" = some (some (.ref f_is_world)))
    (l_is_world : K.lookup f_is_world = some ⟨oc_is_world, od_is_world, .func (PySem.W.fnOf "is_world" "is_world" (defArgs s_is_world) (defBody s_is_world) (defScope s_is_world) .none kV_is_world dc_is_world pm_is_world an_is_world cd_is_world ct_is_world), sl_is_world⟩)
    (c_is_world : PySem.W.codeIn K cd_is_world "is_world" = true)
    (k_is_world : PySem.W.keepIn K (.ref f_is_world) = true)
    (a_Scheme_threads : PySem.W.findIn K (.ref C0) "threads" = some (some (.ref p_Scheme_threads)))
    (g_Scheme_threads : PySem.W.specialIn K (.ref p_Scheme_threads) "__get__" = some (some (.builtin "property.__get__")))
    (tk_Scheme_threads : PySem.W.takesIn K (.ref p_Scheme_threads) = some true)
    (rc_Scheme_threads : PySem.W.recIn K p_Scheme_threads "property" = some (.ref f_Scheme_threads :: r_Scheme_threads))
    (l_Scheme_threads : K.lookup f_Scheme_threads = some ⟨oc_Scheme_threads, od_Scheme_threads, .func (PySem.W.fnOf "threads" "Scheme.threads" (defArgs s_Scheme_threads) (defBody s_Scheme_threads) (defScope s_Scheme_threads) .none kV_Scheme_threads dc_Scheme_threads pm_Scheme_threads an_Scheme_threads cd_Scheme_threads ct_Scheme_threads), sl_Scheme_threads⟩)
    (c_Scheme_threads : PySem.W.codeIn K cd_Scheme_threads "Scheme.threads" = true)
    (k_Scheme_threads : PySem.W.keepIn K (.ref f_Scheme_threads) = true)
    (a_beginning : PySem.W.nsIn K mainGlobals "beginning" = some (some (.ref f_beginning)))
    (l_beginning : K.lookup f_beginning = some ⟨oc_beginning, od_beginning, .func (PySem.W.fnOf "beginning" "beginning" (defArgs s_beginning) (defBody s_beginning) (defScope s_beginning) .none kV_beginning dc_beginning pm_beginning an_beginning cd_beginning ct_beginning), sl_beginning⟩)
    (c_beginning : PySem.W.codeIn K cd_beginning "beginning" = true)
    (k_beginning : PySem.W.keepIn K (.ref f_beginning) = true)
    (a_Machine_init : PySem.W.findIn K (.ref C1) "__init__" = some (some (.ref f_Machine_init)))
    (i_Machine_init : PySem.W.isFn K (.ref f_Machine_init) = true)
    (l_Machine_init : K.lookup f_Machine_init = some ⟨oc_Machine_init, od_Machine_init, .func (PySem.W.fnOf "__init__" "Machine.__init__" (defArgs s_Machine_init) (defBody s_Machine_init) (defScope s_Machine_init) .none kV_Machine_init dc_Machine_init pm_Machine_init an_Machine_init cd_Machine_init ct_Machine_init), sl_Machine_init⟩)
    (c_Machine_init : PySem.W.codeIn K cd_Machine_init "Machine.__init__" = true)
    (k_Machine_init : PySem.W.keepIn K (.ref f_Machine_init) = true)
    (a_Machine_steps : PySem.W.findIn K (.ref C1) "steps" = some (some (.ref p_Machine_steps)))
    (g_Machine_steps : PySem.W.specialIn K (.ref p_Machine_steps) "__get__" = some (some (.builtin "property.__get__")))
    (tk_Machine_steps : PySem.W.takesIn K (.ref p_Machine_steps) = some true)
    (rc_Machine_steps : PySem.W.recIn K p_Machine_steps "property" = some (.ref f_Machine_steps :: r_Machine_steps))
    (l_Machine_steps : K.lookup f_Machine_steps = some ⟨oc_Machine_steps, od_Machine_steps, .func (PySem.W.fnOf "steps" "Machine.steps" (defArgs s_Machine_steps) (defBody s_Machine_steps) (defScope s_Machine_steps) .none kV_Machine_steps dc_Machine_steps pm_Machine_steps an_Machine_steps cd_Machine_steps ct_Machine_steps), sl_Machine_steps⟩)
    (c_Machine_steps : PySem.W.codeIn K cd_Machine_steps "Machine.steps" = true)
    (k_Machine_steps : PySem.W.keepIn K (.ref f_Machine_steps) = true)
    (a_Machine_state : PySem.W.findIn K (.ref C1) "state" = some (some (.ref p_Machine_state)))
    (g_Machine_state : PySem.W.specialIn K (.ref p_Machine_state) "__get__" = some (some (.builtin "property.__get__")))
    (tk_Machine_state : PySem.W.takesIn K (.ref p_Machine_state) = some true)
    (rc_Machine_state : PySem.W.recIn K p_Machine_state "property" = some (.ref f_Machine_state :: r_Machine_state))
    (l_Machine_state : K.lookup f_Machine_state = some ⟨oc_Machine_state, od_Machine_state, .func (PySem.W.fnOf "state" "Machine.state" (defArgs s_Machine_state) (defBody s_Machine_state) (defScope s_Machine_state) .none kV_Machine_state dc_Machine_state pm_Machine_state an_Machine_state cd_Machine_state ct_Machine_state), sl_Machine_state⟩)
    (c_Machine_state : PySem.W.codeIn K cd_Machine_state "Machine.state" = true)
    (k_Machine_state : PySem.W.keepIn K (.ref f_Machine_state) = true)
    (a_Scheme_handler : PySem.W.findIn K (.ref C0) "handler" = some (some (.ref p_Scheme_handler)))
    (g_Scheme_handler : PySem.W.specialIn K (.ref p_Scheme_handler) "__get__" = some (some (.builtin "property.__get__")))
    (tk_Scheme_handler : PySem.W.takesIn K (.ref p_Scheme_handler) = some true)
    (rc_Scheme_handler : PySem.W.recIn K p_Scheme_handler "property" = some (.ref f_Scheme_handler :: r_Scheme_handler))
    (l_Scheme_handler : K.lookup f_Scheme_handler = some ⟨oc_Scheme_handler, od_Scheme_handler, .func (PySem.W.fnOf "handler" "Scheme.handler" (defArgs s_Scheme_handler) (defBody s_Scheme_handler) (defScope s_Scheme_handler) .none kV_Scheme_handler dc_Scheme_handler pm_Scheme_handler an_Scheme_handler cd_Scheme_handler ct_Scheme_handler), sl_Scheme_handler⟩)
    (c_Scheme_handler : PySem.W.codeIn K cd_Scheme_handler "Scheme.handler" = true)
    (k_Scheme_handler : PySem.W.keepIn K (.ref f_Scheme_handler) = true)
    (a_turn : PySem.W.nsIn K mainGlobals "turn" = some (some (.ref f_turn)))
    (l_turn : K.lookup f_turn = some ⟨oc_turn, od_turn, .func (PySem.W.fnOf "turn" "turn" (defArgs s_turn) (defBody s_turn) (defScope s_turn) .none kV_turn dc_turn pm_turn an_turn cd_turn ct_turn), sl_turn⟩)
    (c_turn : PySem.W.codeIn K cd_turn "turn" = true)
    (k_turn : PySem.W.keepIn K (.ref f_turn) = true)
    (a_place_after : PySem.W.nsIn K mainGlobals "place_after" = some (some (.ref f_place_after)))
    (l_place_after : K.lookup f_place_after = some ⟨oc_place_after, od_place_after, .func (PySem.W.fnOf "place_after" "place_after" (defArgs s_place_after) (defBody s_place_after) (defScope s_place_after) .none kV_place_after dc_place_after pm_place_after an_place_after cd_place_after ct_place_after), sl_place_after⟩)
    (c_place_after : PySem.W.codeIn K cd_place_after "place_after" = true)
    (k_place_after : PySem.W.keepIn K (.ref f_place_after) = true)
    (a_hand_after : PySem.W.nsIn K mainGlobals "hand_after" = some (some (.ref f_hand_after)))
    (l_hand_after : K.lookup f_hand_after = some ⟨oc_hand_after, od_hand_after, .func (PySem.W.fnOf "hand_after" "hand_after" (defArgs s_hand_after) (defBody s_hand_after) (defScope s_hand_after) .none kV_hand_after dc_hand_after pm_hand_after an_hand_after cd_hand_after ct_hand_after), sl_hand_after⟩)
    (c_hand_after : PySem.W.codeIn K cd_hand_after "hand_after" = true)
    (k_hand_after : PySem.W.keepIn K (.ref f_hand_after) = true)
    (a_replaced : PySem.W.nsIn K mainGlobals "replaced" = some (some (.ref f_replaced)))
    (l_replaced : K.lookup f_replaced = some ⟨oc_replaced, od_replaced, .func (PySem.W.fnOf "replaced" "replaced" (defArgs s_replaced) (defBody s_replaced) (defScope s_replaced) .none kV_replaced dc_replaced pm_replaced an_replaced cd_replaced ct_replaced), sl_replaced⟩)
    (c_replaced : PySem.W.codeIn K cd_replaced "replaced" = true)
    (k_replaced : PySem.W.keepIn K (.ref f_replaced) = true)
    (a_cells_after : PySem.W.nsIn K mainGlobals "cells_after" = some (some (.ref f_cells_after)))
    (l_cells_after : K.lookup f_cells_after = some ⟨oc_cells_after, od_cells_after, .func (PySem.W.fnOf "cells_after" "cells_after" (defArgs s_cells_after) (defBody s_cells_after) (defScope s_cells_after) .none kV_cells_after dc_cells_after pm_cells_after an_cells_after cd_cells_after ct_cells_after), sl_cells_after⟩)
    (c_cells_after : PySem.W.codeIn K cd_cells_after "cells_after" = true)
    (k_cells_after : PySem.W.keepIn K (.ref f_cells_after) = true)
    (a_instructed : PySem.W.nsIn K mainGlobals "instructed" = some (some (.ref f_instructed)))
    (l_instructed : K.lookup f_instructed = some ⟨oc_instructed, od_instructed, .func (PySem.W.fnOf "instructed" "instructed" (defArgs s_instructed) (defBody s_instructed) (defScope s_instructed) .none kV_instructed dc_instructed pm_instructed an_instructed cd_instructed ct_instructed), sl_instructed⟩)
    (c_instructed : PySem.W.codeIn K cd_instructed "instructed" = true)
    (k_instructed : PySem.W.keepIn K (.ref f_instructed) = true)
    (a_before_instruction : PySem.W.nsIn K mainGlobals "before_instruction" = some (some (.ref f_before_instruction)))
    (l_before_instruction : K.lookup f_before_instruction = some ⟨oc_before_instruction, od_before_instruction, .func (PySem.W.fnOf "before_instruction" "before_instruction" (defArgs s_before_instruction) (defBody s_before_instruction) (defScope s_before_instruction) .none kV_before_instruction dc_before_instruction pm_before_instruction an_before_instruction cd_before_instruction ct_before_instruction), sl_before_instruction⟩)
    (c_before_instruction : PySem.W.codeIn K cd_before_instruction "before_instruction" = true)
    (k_before_instruction : PySem.W.keepIn K (.ref f_before_instruction) = true)
    (a_stepped : PySem.W.nsIn K mainGlobals "stepped" = some (some (.ref f_stepped)))
    (l_stepped : K.lookup f_stepped = some ⟨oc_stepped, od_stepped, .func (PySem.W.fnOf "stepped" "stepped" (defArgs s_stepped) (defBody s_stepped) (defScope s_stepped) .none kV_stepped dc_stepped pm_stepped an_stepped cd_stepped ct_stepped), sl_stepped⟩)
    (c_stepped : PySem.W.codeIn K cd_stepped "stepped" = true)
    (k_stepped : PySem.W.keepIn K (.ref f_stepped) = true)
    (a_Machine_step : PySem.W.findIn K (.ref C1) "step" = some (some (.ref f_Machine_step)))
    (i_Machine_step : PySem.W.isFn K (.ref f_Machine_step) = true)
    (l_Machine_step : K.lookup f_Machine_step = some ⟨oc_Machine_step, od_Machine_step, .func (PySem.W.fnOf "step" "Machine.step" (defArgs s_Machine_step) (defBody s_Machine_step) (defScope s_Machine_step) .none kV_Machine_step dc_Machine_step pm_Machine_step an_Machine_step cd_Machine_step ct_Machine_step), sl_Machine_step⟩)
    (c_Machine_step : PySem.W.codeIn K cd_Machine_step "Machine.step" = true)
    (k_Machine_step : PySem.W.keepIn K (.ref f_Machine_step) = true)
    (a_upcoming : PySem.W.nsIn K mainGlobals "upcoming" = some (some (.ref f_upcoming)))
    (l_upcoming : K.lookup f_upcoming = some ⟨oc_upcoming, od_upcoming, .func (PySem.W.fnOf "upcoming" "upcoming" (defArgs s_upcoming) (defBody s_upcoming) (defScope s_upcoming) .none kV_upcoming dc_upcoming pm_upcoming an_upcoming cd_upcoming ct_upcoming), sl_upcoming⟩)
    (c_upcoming : PySem.W.codeIn K cd_upcoming "upcoming" = true)
    (k_upcoming : PySem.W.keepIn K (.ref f_upcoming) = true)
    (a_Machine_next : PySem.W.findIn K (.ref C1) "next" = some (some (.ref f_Machine_next)))
    (i_Machine_next : PySem.W.isFn K (.ref f_Machine_next) = true)
    (l_Machine_next : K.lookup f_Machine_next = some ⟨oc_Machine_next, od_Machine_next, .func (PySem.W.fnOf "next" "Machine.next" (defArgs s_Machine_next) (defBody s_Machine_next) (defScope s_Machine_next) .none kV_Machine_next dc_Machine_next pm_Machine_next an_Machine_next cd_Machine_next ct_Machine_next), sl_Machine_next⟩)
    (c_Machine_next : PySem.W.codeIn K cd_Machine_next "Machine.next" = true)
    (k_Machine_next : PySem.W.keepIn K (.ref f_Machine_next) = true)
    (a_machine_at : PySem.W.nsIn K mainGlobals "machine_at" = some (some (.ref f_machine_at)))
    (l_machine_at : K.lookup f_machine_at = some ⟨oc_machine_at, od_machine_at, .func (PySem.W.fnOf "machine_at" "machine_at" (defArgs s_machine_at) (defBody s_machine_at) (defScope s_machine_at) .none kV_machine_at dc_machine_at pm_machine_at an_machine_at cd_machine_at ct_machine_at), sl_machine_at⟩)
    (c_machine_at : PySem.W.codeIn K cd_machine_at "machine_at" = true)
    (k_machine_at : PySem.W.keepIn K (.ref f_machine_at) = true)
    (a_Machine_copy : PySem.W.findIn K (.ref C1) "copy" = some (some (.ref f_Machine_copy)))
    (i_Machine_copy : PySem.W.isFn K (.ref f_Machine_copy) = true)
    (l_Machine_copy : K.lookup f_Machine_copy = some ⟨oc_Machine_copy, od_Machine_copy, .func (PySem.W.fnOf "copy" "Machine.copy" (defArgs s_Machine_copy) (defBody s_Machine_copy) (defScope s_Machine_copy) .none kV_Machine_copy dc_Machine_copy pm_Machine_copy an_Machine_copy cd_Machine_copy ct_Machine_copy), sl_Machine_copy⟩)
    (c_Machine_copy : PySem.W.codeIn K cd_Machine_copy "Machine.copy" = true)
    (k_Machine_copy : PySem.W.keepIn K (.ref f_Machine_copy) = true)
    (a_Scheme_eq : PySem.W.findIn K (.ref C0) "__eq__" = some (some (.ref f_Scheme_eq)))
    (i_Scheme_eq : PySem.W.isFn K (.ref f_Scheme_eq) = true)
    (l_Scheme_eq : K.lookup f_Scheme_eq = some ⟨oc_Scheme_eq, od_Scheme_eq, .func (PySem.W.fnOf "__eq__" "Scheme.__eq__" (defArgs s_Scheme_eq) (defBody s_Scheme_eq) (defScope s_Scheme_eq) .none kV_Scheme_eq dc_Scheme_eq pm_Scheme_eq an_Scheme_eq cd_Scheme_eq ct_Scheme_eq), sl_Scheme_eq⟩)
    (c_Scheme_eq : PySem.W.codeIn K cd_Scheme_eq "Scheme.__eq__" = true)
    (k_Scheme_eq : PySem.W.keepIn K (.ref f_Scheme_eq) = true)
    (a_Machine_eq : PySem.W.findIn K (.ref C1) "__eq__" = some (some (.ref f_Machine_eq)))
    (i_Machine_eq : PySem.W.isFn K (.ref f_Machine_eq) = true)
    (l_Machine_eq : K.lookup f_Machine_eq = some ⟨oc_Machine_eq, od_Machine_eq, .func (PySem.W.fnOf "__eq__" "Machine.__eq__" (defArgs s_Machine_eq) (defBody s_Machine_eq) (defScope s_Machine_eq) .none kV_Machine_eq dc_Machine_eq pm_Machine_eq an_Machine_eq cd_Machine_eq ct_Machine_eq), sl_Machine_eq⟩)
    (c_Machine_eq : PySem.W.codeIn K cd_Machine_eq "Machine.__eq__" = true)
    (k_Machine_eq : PySem.W.keepIn K (.ref f_Machine_eq) = true)
    (a_check_worlds : PySem.W.nsIn K mainGlobals "check_worlds" = some (some (.ref f_check_worlds)))
    (l_check_worlds : K.lookup f_check_worlds = some ⟨oc_check_worlds, od_check_worlds, .func (PySem.W.fnOf "check_worlds" "check_worlds" (defArgs s_check_worlds) (defBody s_check_worlds) (defScope s_check_worlds) .none kV_check_worlds dc_check_worlds pm_check_worlds an_check_worlds cd_check_worlds ct_check_worlds), sl_check_worlds⟩)
    (c_check_worlds : PySem.W.codeIn K cd_check_worlds "check_worlds" = true)
    (k_check_worlds : PySem.W.keepIn K (.ref f_check_worlds) = true)
    (a_check_run : PySem.W.nsIn K mainGlobals "check_run" = some (some (.ref f_check_run)))
    (l_check_run : K.lookup f_check_run = some ⟨oc_check_run, od_check_run, .func (PySem.W.fnOf "check_run" "check_run" (defArgs s_check_run) (defBody s_check_run) (defScope s_check_run) .none kV_check_run dc_check_run pm_check_run an_check_run cd_check_run ct_check_run), sl_check_run⟩)
    (c_check_run : PySem.W.codeIn K cd_check_run "check_run" = true)
    (k_check_run : PySem.W.keepIn K (.ref f_check_run) = true)
    (a_shown_by : PySem.W.nsIn K mainGlobals "shown_by" = some (some (.ref f_shown_by)))
    (l_shown_by : K.lookup f_shown_by = some ⟨oc_shown_by, od_shown_by, .func (PySem.W.fnOf "shown_by" "shown_by" (defArgs s_shown_by) (defBody s_shown_by) (defScope s_shown_by) .none kV_shown_by dc_shown_by pm_shown_by an_shown_by cd_shown_by ct_shown_by), sl_shown_by⟩)
    (c_shown_by : PySem.W.codeIn K cd_shown_by "shown_by" = true)
    (k_shown_by : PySem.W.keepIn K (.ref f_shown_by) = true)
    (a_shown : PySem.W.nsIn K mainGlobals "shown" = some (some (.ref f_shown)))
    (l_shown : K.lookup f_shown = some ⟨oc_shown, od_shown, .func (PySem.W.fnOf "shown" "shown" (defArgs s_shown) (defBody s_shown) (defScope s_shown) .none kV_shown dc_shown pm_shown an_shown cd_shown ct_shown), sl_shown⟩)
    (c_shown : PySem.W.codeIn K cd_shown "shown" = true)
    (k_shown : PySem.W.keepIn K (.ref f_shown) = true)
    (a__law_world : PySem.W.nsIn K mainGlobals "_law_world" = some (some (.ref f__law_world)))
    (l__law_world : K.lookup f__law_world = some ⟨oc__law_world, od__law_world, .func (PySem.W.fnOf "_law_world" "_law_world" (defArgs s__law_world) (defBody s__law_world) (defScope s__law_world) .none kV__law_world dc__law_world pm__law_world an__law_world cd__law_world ct__law_world), sl__law_world⟩)
    (c__law_world : PySem.W.codeIn K cd__law_world "_law_world" = true)
    (k__law_world : PySem.W.keepIn K (.ref f__law_world) = true)
    (a__law_start : PySem.W.nsIn K mainGlobals "_law_start" = some (some (.ref f__law_start)))
    (l__law_start : K.lookup f__law_start = some ⟨oc__law_start, od__law_start, .func (PySem.W.fnOf "_law_start" "_law_start" (defArgs s__law_start) (defBody s__law_start) (defScope s__law_start) .none kV__law_start dc__law_start pm__law_start an__law_start cd__law_start ct__law_start), sl__law_start⟩)
    (c__law_start : PySem.W.codeIn K cd__law_start "_law_start" = true)
    (k__law_start : PySem.W.keepIn K (.ref f__law_start) = true)
    (a__law_state : PySem.W.nsIn K mainGlobals "_law_state" = some (some (.ref f__law_state)))
    (l__law_state : K.lookup f__law_state = some ⟨oc__law_state, od__law_state, .func (PySem.W.fnOf "_law_state" "_law_state" (defArgs s__law_state) (defBody s__law_state) (defScope s__law_state) .none kV__law_state dc__law_state pm__law_state an__law_state cd__law_state ct__law_state), sl__law_state⟩)
    (c__law_state : PySem.W.codeIn K cd__law_state "_law_state" = true)
    (k__law_state : PySem.W.keepIn K (.ref f__law_state) = true)
    (a__law_meet : PySem.W.nsIn K mainGlobals "_law_meet" = some (some (.ref f__law_meet)))
    (l__law_meet : K.lookup f__law_meet = some ⟨oc__law_meet, od__law_meet, .func (PySem.W.fnOf "_law_meet" "_law_meet" (defArgs s__law_meet) (defBody s__law_meet) (defScope s__law_meet) .none kV__law_meet dc__law_meet pm__law_meet an__law_meet cd__law_meet ct__law_meet), sl__law_meet⟩)
    (c__law_meet : PySem.W.codeIn K cd__law_meet "_law_meet" = true)
    (k__law_meet : PySem.W.keepIn K (.ref f__law_meet) = true)
    (a__law_brought : PySem.W.nsIn K mainGlobals "_law_brought" = some (some (.ref f__law_brought)))
    (l__law_brought : K.lookup f__law_brought = some ⟨oc__law_brought, od__law_brought, .func (PySem.W.fnOf "_law_brought" "_law_brought" (defArgs s__law_brought) (defBody s__law_brought) (defScope s__law_brought) .none kV__law_brought dc__law_brought pm__law_brought an__law_brought cd__law_brought ct__law_brought), sl__law_brought⟩)
    (c__law_brought : PySem.W.codeIn K cd__law_brought "_law_brought" = true)
    (k__law_brought : PySem.W.keepIn K (.ref f__law_brought) = true)
    (a__law_step : PySem.W.nsIn K mainGlobals "_law_step" = some (some (.ref f__law_step)))
    (l__law_step : K.lookup f__law_step = some ⟨oc__law_step, od__law_step, .func (PySem.W.fnOf "_law_step" "_law_step" (defArgs s__law_step) (defBody s__law_step) (defScope s__law_step) .none kV__law_step dc__law_step pm__law_step an__law_step cd__law_step ct__law_step), sl__law_step⟩)
    (c__law_step : PySem.W.codeIn K cd__law_step "_law_step" = true)
    (k__law_step : PySem.W.keepIn K (.ref f__law_step) = true)
    (a__law_core : PySem.W.nsIn K mainGlobals "_law_core" = some (some (.ref f__law_core)))
    (l__law_core : K.lookup f__law_core = some ⟨oc__law_core, od__law_core, .func (PySem.W.fnOf "_law_core" "_law_core" (defArgs s__law_core) (defBody s__law_core) (defScope s__law_core) .none kV__law_core dc__law_core pm__law_core an__law_core cd__law_core ct__law_core), sl__law_core⟩)
    (c__law_core : PySem.W.codeIn K cd__law_core "_law_core" = true)
    (k__law_core : PySem.W.keepIn K (.ref f__law_core) = true)
    (a__law_next_one : PySem.W.nsIn K mainGlobals "_law_next_one" = some (some (.ref f__law_next_one)))
    (l__law_next_one : K.lookup f__law_next_one = some ⟨oc__law_next_one, od__law_next_one, .func (PySem.W.fnOf "_law_next_one" "_law_next_one" (defArgs s__law_next_one) (defBody s__law_next_one) (defScope s__law_next_one) .none kV__law_next_one dc__law_next_one pm__law_next_one an__law_next_one cd__law_next_one ct__law_next_one), sl__law_next_one⟩)
    (c__law_next_one : PySem.W.codeIn K cd__law_next_one "_law_next_one" = true)
    (k__law_next_one : PySem.W.keepIn K (.ref f__law_next_one) = true)
    (a__law_run_right : PySem.W.nsIn K mainGlobals "_law_run_right" = some (some (.ref f__law_run_right)))
    (l__law_run_right : K.lookup f__law_run_right = some ⟨oc__law_run_right, od__law_run_right, .func (PySem.W.fnOf "_law_run_right" "_law_run_right" (defArgs s__law_run_right) (defBody s__law_run_right) (defScope s__law_run_right) .none kV__law_run_right dc__law_run_right pm__law_run_right an__law_run_right cd__law_run_right ct__law_run_right), sl__law_run_right⟩)
    (c__law_run_right : PySem.W.codeIn K cd__law_run_right "_law_run_right" = true)
    (k__law_run_right : PySem.W.keepIn K (.ref f__law_run_right) = true)
    (a_law : PySem.W.nsIn K mainGlobals "law" = some (some (.ref f_law)))
    (l_law : K.lookup f_law = some ⟨oc_law, od_law, .func (PySem.W.fnOf "law" "law" (defArgs s_law) (defBody s_law) (defScope s_law) .none kV_law dc_law pm_law an_law cd_law ct_law), sl_law⟩)
    (c_law : PySem.W.codeIn K cd_law "law" = true)
    (k_law : PySem.W.keepIn K (.ref f_law) = true)
    (ns0 : PySem.W.nsIn K mainGlobals "Scheme" = some (some (.ref C0)))
    (pg0 : PySem.W.plainGet K C0 Str.empty = true)
    (hd0 : PySem.W.hasDictIn K C0 = true)
    (po0 : PySem.W.plainOver K C0 = true)
    (sa0 : PySem.W.findIn K (.ref C0) "__setattr__" = some (some (.builtin "object.__setattr__")))
    (mk0 : PySem.W.makesIn K C0 = true)
    (kc0 : PySem.W.keepIn K (.ref C0) = true)
    (ha0 : PySem.W.findIn K (.ref C0) "__class__" = some (some (.builtin "object.__class__")))
    (hn0 : PySem.W.specialIn K (.builtin "object.__class__") "__get__" = some (some (.builtin "getset_descriptor.__get__")))
    (ht0 : PySem.W.takesIn K (.builtin "object.__class__") = some true)
    (hm0 : PySem.W.mroIn K C0 (.type "object") = some true)
    (ns1 : PySem.W.nsIn K mainGlobals "Machine" = some (some (.ref C1)))
    (pg1 : PySem.W.plainGet K C1 Str.empty = true)
    (hd1 : PySem.W.hasDictIn K C1 = true)
    (po1 : PySem.W.plainOver K C1 = true)
    (sa1 : PySem.W.findIn K (.ref C1) "__setattr__" = some (some (.builtin "object.__setattr__")))
    (mk1 : PySem.W.makesIn K C1 = true)
    (kc1 : PySem.W.keepIn K (.ref C1) = true)
    (ha1 : PySem.W.findIn K (.ref C1) "__class__" = some (some (.builtin "object.__class__")))
    (hn1 : PySem.W.specialIn K (.builtin "object.__class__") "__get__" = some (some (.builtin "getset_descriptor.__get__")))
    (ht1 : PySem.W.takesIn K (.builtin "object.__class__") = some true)
    (hm1 : PySem.W.mroIn K C1 (.type "object") = some true)
    (na0_threads : PySem.W.findIn K (.ref C0) "_threads" = some none)
    (na0_handler : PySem.W.findIn K (.ref C0) "_handler" = some none)
    (na0_kinds : PySem.W.findIn K (.ref C0) "_kinds" = some none)
    (na1_scheme : PySem.W.findIn K (.ref C1) "_scheme" = some none)
    (na1_state : PySem.W.findIn K (.ref C1) "_state" = some none)
    (na1_steps : PySem.W.findIn K (.ref C1) "_steps" = some none)
    (zn_all : PySem.W.nsIn K mainGlobals "all" = some none)
    (zn_bool : PySem.W.nsIn K mainGlobals "bool" = some none)
    (zn_enumerate : PySem.W.nsIn K mainGlobals "enumerate" = some none)
    (zn_int : PySem.W.nsIn K mainGlobals "int" = some none)
    (zn_isinstance : PySem.W.nsIn K mainGlobals "isinstance" = some none)
    (zn_len : PySem.W.nsIn K mainGlobals "len" = some none)
    (zn_list : PySem.W.nsIn K mainGlobals "list" = some none)
    (zn_max : PySem.W.nsIn K mainGlobals "max" = some none)
    (zn_min : PySem.W.nsIn K mainGlobals "min" = some none)
    (zn_range : PySem.W.nsIn K mainGlobals "range" = some none)
    (zn_str : PySem.W.nsIn K mainGlobals "str" = some none)
    (zn_tuple : PySem.W.nsIn K mainGlobals "tuple" = some none)
    (zn_zip : PySem.W.nsIn K mainGlobals "zip" = some none)
    (a_ALL_KINDS : PySem.W.nsIn K mainGlobals "ALL_KINDS" = some (some (.ref T_ALL_KINDS)))
    (l_ALL_KINDS : K.lookup T_ALL_KINDS = some ⟨.type "tuple", od_ALL_KINDS, .seq #[(.str "rings" tk0_ALL_KINDS), (.str "alarms" tk1_ALL_KINDS), (.str "ticks" tk2_ALL_KINDS), (.str "words" tk3_ALL_KINDS), (.str "results" tk4_ALL_KINDS), (.str "firsts" tk5_ALL_KINDS)] n_ALL_KINDS, sl_ALL_KINDS⟩)
    (a_QUIET : PySem.W.nsIn K mainGlobals "QUIET" = some (some (.ref T_QUIET)))
    (l_QUIET : K.lookup T_QUIET = some ⟨.type "tuple", od_QUIET, .seq #[(.bool false), (.bool false), (.bool false), .none, (.int 0 tk0_QUIET), (.int 0 tk1_QUIET)] n_QUIET, sl_QUIET⟩)
    (a_MOST_WORDS : PySem.W.nsIn K mainGlobals "MOST_WORDS" = some (some (.int 2 tk0_MOST_WORDS)))
    (a_LONGEST_RUN : PySem.W.nsIn K mainGlobals "LONGEST_RUN" = some (some (.int 200 tk0_LONGEST_RUN)))
    (a_GREATEST : PySem.W.nsIn K mainGlobals "GREATEST" = some (some (.ref T_GREATEST)))
    (l_GREATEST : K.lookup T_GREATEST = some ⟨.type "dict", none, .dict es_GREATEST n_GREATEST, #[]⟩)
    (kl_GREATEST : PySem.W.KeysLit w.params es_GREATEST.toList)
    (lo_GREATEST : (T_GREATEST == sysModules) = false)
    (e0_GREATEST : PySem.W.nsIn K T_GREATEST "set" = some (some (.int 2 tv0_GREATEST)))
    (e1_GREATEST : PySem.W.nsIn K T_GREATEST "load" = some (some (.int 2 tv1_GREATEST)))
    (e2_GREATEST : PySem.W.nsIn K T_GREATEST "add" = some (some (.int 2 tv2_GREATEST)))
    (e3_GREATEST : PySem.W.nsIn K T_GREATEST "save" = some (some (.int 2 tv3_GREATEST)))
    (e4_GREATEST : PySem.W.nsIn K T_GREATEST "first" = some (some (.int 2 tv4_GREATEST)))
    (e5_GREATEST : PySem.W.nsIn K T_GREATEST "show" = some (some (.int 0 tv5_GREATEST)))
    (e6_GREATEST : PySem.W.nsIn K T_GREATEST "shut" = some (some (.int 0 tv6_GREATEST)))
    (e7_GREATEST : PySem.W.nsIn K T_GREATEST "open" = some (some (.int 0 tv7_GREATEST)))
    (e8_GREATEST : PySem.W.nsIn K T_GREATEST "time" = some (some (.int 0 tv8_GREATEST)))
    (e9_GREATEST : PySem.W.nsIn K T_GREATEST "take" = some (some (.int 0 tv9_GREATEST)))
    (e10_GREATEST : PySem.W.nsIn K T_GREATEST "count" = some (some (.int 0 tv10_GREATEST)))
    (e11_GREATEST : PySem.W.nsIn K T_GREATEST "spilt" = some (some (.int 0 tv11_GREATEST)))
    (e12_GREATEST : PySem.W.nsIn K T_GREATEST "call" = some (some (.int 0 tv12_GREATEST))) :
    ∃ fd : FuncData, (∀ (s : Shared) (v : Value), BindsTo s fd ⟨[v], []⟩ [("_law_script", v)]) ∧ ∀ base : Heap, K.In base → base.Ns mainGlobals mg → FnOk l.prog w K mg base CX0 9 fa fd ["_law_script"] (spLaw K) := by
  have g_ALL_KINDS : Glo K mg "ALL_KINDS" c_ALL_KINDS := ⟨.ref T_ALL_KINDS, .ref T_ALL_KINDS, PySem.W.mg_of X G a_ALL_KINDS, rfl, fun ρ H => Rep.tup (vs := [V.str "rings", V.str "alarms", V.str "ticks", V.str "words", V.str "results", V.str "firsts"]) (.inr ⟨_, _, _, l_ALL_KINDS, rfl, rfl, (by show 6 ≤ sizeLine; decide), (.cons ⟨_, rfl⟩ (.cons ⟨_, rfl⟩ (.cons ⟨_, rfl⟩ (.cons ⟨_, rfl⟩ (.cons ⟨_, rfl⟩ (.cons ⟨_, rfl⟩ .nil))))))⟩) (.cons (.str _) (.cons (.str _) (.cons (.str _) (.cons (.str _) (.cons (.str _) (.cons (.str _) .nil))))))⟩
  have g_QUIET : Glo K mg "QUIET" c_QUIET := ⟨.ref T_QUIET, .ref T_QUIET, PySem.W.mg_of X G a_QUIET, rfl, fun ρ H => Rep.tup (vs := [V.bl false, V.bl false, V.bl false, V.non, V.int 0, V.int 0]) (.inr ⟨_, _, _, l_QUIET, rfl, rfl, (by show 6 ≤ sizeLine; decide), (.cons rfl (.cons rfl (.cons rfl (.cons rfl (.cons ⟨_, rfl⟩ (.cons ⟨_, rfl⟩ .nil))))))⟩) (.cons (.bl _) (.cons (.bl _) (.cons (.bl _) (.cons .non (.cons (.int _) (.cons (.int _) .nil))))))⟩
  have g_MOST_WORDS : Glo K mg "MOST_WORDS" c_MOST_WORDS := ⟨(.int 2), _, PySem.W.mg_of X G a_MOST_WORDS, ⟨_, rfl⟩, fun ρ H => .int _⟩
  have g_LONGEST_RUN : Glo K mg "LONGEST_RUN" c_LONGEST_RUN := ⟨(.int 200), _, PySem.W.mg_of X G a_LONGEST_RUN, ⟨_, rfl⟩, fun ρ H => .int _⟩
  have k_GREATEST : KTab K w mg "GREATEST" t_GREATEST := by
    refine ⟨T_GREATEST, es_GREATEST, n_GREATEST, PySem.W.mg_of X G a_GREATEST, ⟨l_GREATEST, kl_GREATEST, lo_GREATEST⟩, fun z dd h => ?_⟩
    unfold t_GREATEST at h
    rw [List.lookup_cons] at h
    split at h
    · next hz =>
      have hz := beq_iff_eq.mp hz
      cases h
      subst hz
      exact ⟨_, .int 2, e0_GREATEST, ⟨_, rfl⟩, fun ρ H => .int _⟩
    rw [List.lookup_cons] at h
    split at h
    · next hz =>
      have hz := beq_iff_eq.mp hz
      cases h
      subst hz
      exact ⟨_, .int 2, e1_GREATEST, ⟨_, rfl⟩, fun ρ H => .int _⟩
    rw [List.lookup_cons] at h
    split at h
    · next hz =>
      have hz := beq_iff_eq.mp hz
      cases h
      subst hz
      exact ⟨_, .int 2, e2_GREATEST, ⟨_, rfl⟩, fun ρ H => .int _⟩
    rw [List.lookup_cons] at h
    split at h
    · next hz =>
      have hz := beq_iff_eq.mp hz
      cases h
      subst hz
      exact ⟨_, .int 2, e3_GREATEST, ⟨_, rfl⟩, fun ρ H => .int _⟩
    rw [List.lookup_cons] at h
    split at h
    · next hz =>
      have hz := beq_iff_eq.mp hz
      cases h
      subst hz
      exact ⟨_, .int 2, e4_GREATEST, ⟨_, rfl⟩, fun ρ H => .int _⟩
    rw [List.lookup_cons] at h
    split at h
    · next hz =>
      have hz := beq_iff_eq.mp hz
      cases h
      subst hz
      exact ⟨_, .int 0, e5_GREATEST, ⟨_, rfl⟩, fun ρ H => .int _⟩
    rw [List.lookup_cons] at h
    split at h
    · next hz =>
      have hz := beq_iff_eq.mp hz
      cases h
      subst hz
      exact ⟨_, .int 0, e6_GREATEST, ⟨_, rfl⟩, fun ρ H => .int _⟩
    rw [List.lookup_cons] at h
    split at h
    · next hz =>
      have hz := beq_iff_eq.mp hz
      cases h
      subst hz
      exact ⟨_, .int 0, e7_GREATEST, ⟨_, rfl⟩, fun ρ H => .int _⟩
    rw [List.lookup_cons] at h
    split at h
    · next hz =>
      have hz := beq_iff_eq.mp hz
      cases h
      subst hz
      exact ⟨_, .int 0, e8_GREATEST, ⟨_, rfl⟩, fun ρ H => .int _⟩
    rw [List.lookup_cons] at h
    split at h
    · next hz =>
      have hz := beq_iff_eq.mp hz
      cases h
      subst hz
      exact ⟨_, .int 0, e9_GREATEST, ⟨_, rfl⟩, fun ρ H => .int _⟩
    rw [List.lookup_cons] at h
    split at h
    · next hz =>
      have hz := beq_iff_eq.mp hz
      cases h
      subst hz
      exact ⟨_, .int 0, e10_GREATEST, ⟨_, rfl⟩, fun ρ H => .int _⟩
    rw [List.lookup_cons] at h
    split at h
    · next hz =>
      have hz := beq_iff_eq.mp hz
      cases h
      subst hz
      exact ⟨_, .int 0, e11_GREATEST, ⟨_, rfl⟩, fun ρ H => .int _⟩
    rw [List.lookup_cons] at h
    split at h
    · next hz =>
      have hz := beq_iff_eq.mp hz
      cases h
      subst hz
      exact ⟨_, .int 0, e12_GREATEST, ⟨_, rfl⟩, fun ρ H => .int _⟩
    cases h
  let cl : Nat → Addr := clOf [C0, C1]
  have cls0 : Cls K (cl 0) := ⟨pg0, hd0, po0, sa0⟩
  have i_Scheme : C8.InsC K (cl 0) := ⟨cls0, ha0, hn0, ht0, hm0, if_pos (beq_self_eq_true _)⟩
  have mc_Scheme : mg "Scheme" = some (.ref (cl 0)) := PySem.W.mg_of X G ns0
  have cls1 : Cls K (cl 1) := ⟨pg1, hd1, po1, sa1⟩
  have i_Machine : C8.InsC K (cl 1) := ⟨cls1, ha1, hn1, ht1, hm1, if_pos (beq_self_eq_true _)⟩
  have mc_Machine : mg "Machine" = some (.ref (cl 1)) := PySem.W.mg_of X G ns1
  have t_threads : Atr K cl [0] "_threads" := .one cls0 na0_threads
  have t_handler : Atr K cl [0] "_handler" := .one cls0 na0_handler
  have t_kinds : Atr K cl [0] "_kinds" := .one cls0 na0_kinds
  have t_scheme : Atr K cl [1] "_scheme" := .one cls1 na1_scheme
  have t_state : Atr K cl [1] "_state" := .one cls1 na1_state
  have t_steps : Atr K cl [1] "_steps" := .one cls1 na1_steps
  have n_all : mg "all" = none := PySem.W.mg_none_of X G zn_all
  have n_bool : mg "bool" = none := PySem.W.mg_none_of X G zn_bool
  have n_enumerate : mg "enumerate" = none := PySem.W.mg_none_of X G zn_enumerate
  have n_int : mg "int" = none := PySem.W.mg_none_of X G zn_int
  have n_isinstance : mg "isinstance" = none := PySem.W.mg_none_of X G zn_isinstance
  have n_len : mg "len" = none := PySem.W.mg_none_of X G zn_len
  have n_list : mg "list" = none := PySem.W.mg_none_of X G zn_list
  have n_max : mg "max" = none := PySem.W.mg_none_of X G zn_max
  have n_min : mg "min" = none := PySem.W.mg_none_of X G zn_min
  have n_range : mg "range" = none := PySem.W.mg_none_of X G zn_range
  have n_str : mg "str" = none := PySem.W.mg_none_of X G zn_str
  have n_tuple : mg "tuple" = none := PySem.W.mg_none_of X G zn_tuple
  have n_zip : mg "zip" = none := PySem.W.mg_none_of X G zn_zip
  have F__law_cell_at := fun_mk (st := s__law_cell_at) l__law_cell_at c__law_cell_at k__law_cell_at
  have b__law_cell_at := F__law_cell_at.binds (ps := ["_law_script", "_law_k"]) fun _ _ _ _ _ _ us hl => match us, hl with | [_, _], _ => rfl
  have F__law_draw := fun_mk (st := s__law_draw) l__law_draw c__law_draw k__law_draw
  have b__law_draw := F__law_draw.binds (ps := ["_law_cell", "_law_k", "_law_bound"]) fun _ _ _ _ _ _ us hl => match us, hl with | [_, _, _], _ => rfl
  have F__law_number := fun_mk (st := s__law_number) l__law_number c__law_number k__law_number
  have b__law_number := F__law_number.binds (ps := ["_law_cell", "_law_k", "_law_bound"]) fun _ _ _ _ _ _ us hl => match us, hl with | [_, _, _], _ => rfl
  have F__law_next := fun_mk (st := s__law_next) l__law_next c__law_next k__law_next
  have b__law_next := F__law_next.binds (ps := ["_law_draw_here", "_law_bound"]) fun _ _ _ _ _ _ us hl => match us, hl with | [_, _], _ => rfl
  have F_is_number := fun_mk (st := s_is_number) l_is_number c_is_number k_is_number
  have b_is_number := F_is_number.binds (ps := ["value", "least", "greatest"]) fun _ _ _ _ _ _ us hl => match us, hl with | [_, _, _], _ => rfl
  have F_is_instruction := fun_mk (st := s_is_instruction) l_is_instruction c_is_instruction k_is_instruction
  have b_is_instruction := F_is_instruction.binds (ps := ["value", "places"]) fun _ _ _ _ _ _ us hl => match us, hl with | [_, _], _ => rfl
  have F_is_code := fun_mk (st := s_is_code) l_is_code c_is_code k_is_code
  have b_is_code := F_is_code.binds (ps := ["value", "least", "most"]) fun _ _ _ _ _ _ us hl => match us, hl with | [_, _, _], _ => rfl
  have F_are_threads := fun_mk (st := s_are_threads) l_are_threads c_are_threads k_are_threads
  have b_are_threads := F_are_threads.binds (ps := ["value"]) fun _ _ _ _ _ _ us hl => match us, hl with | [_], _ => rfl
  have F_is_kinds_of := fun_mk (st := s_is_kinds_of) l_is_kinds_of c_is_kinds_of k_is_kinds_of
  have b_is_kinds_of := F_is_kinds_of.binds (ps := ["among", "value"]) fun _ _ _ _ _ _ us hl => match us, hl with | [_, _], _ => rfl
  have F_Scheme_init := fun_mk (st := s_Scheme_init) l_Scheme_init c_Scheme_init k_Scheme_init
  have F__law_pick := fun_mk (st := s__law_pick) l__law_pick c__law_pick k__law_pick
  have b__law_pick := F__law_pick.binds (ps := ["_law_draw_here", "_law_things"]) fun _ _ _ _ _ _ us hl => match us, hl with | [_, _], _ => rfl
  have F__law_instruction := fun_mk (st := s__law_instruction) l__law_instruction c__law_instruction k__law_instruction
  have b__law_instruction := F__law_instruction.binds (ps := ["_law_draw_here", "_law_many"]) fun _ _ _ _ _ _ us hl => match us, hl with | [_, _], _ => rfl
  have F__law_code := fun_mk (st := s__law_code) l__law_code c__law_code k__law_code
  have b__law_code := F__law_code.binds (ps := ["_law_draw_here", "_law_least", "_law_most"]) fun _ _ _ _ _ _ us hl => match us, hl with | [_, _, _], _ => rfl
  have F__law_scheme := fun_mk (st := s__law_scheme) l__law_scheme c__law_scheme k__law_scheme
  have b__law_scheme := F__law_scheme.binds (ps := ["_law_draw_here", "_law_threads", "_law_most", "_law_sorts"]) fun _ _ _ _ _ _ us hl => match us, hl with | [_, _, _, _], _ => rfl
  have F_Scheme_kinds := fun_mk (st := s_Scheme_kinds) l_Scheme_kinds c_Scheme_kinds k_Scheme_kinds
  have b_Scheme_kinds := F_Scheme_kinds.binds (ps := ["self"]) fun _ _ _ _ _ _ us hl => match us, hl with | [_], _ => rfl
  have F_check_scheme := fun_mk (st := s_check_scheme) l_check_scheme c_check_scheme k_check_scheme
  have b_check_scheme := F_check_scheme.binds (ps := ["scheme"]) fun _ _ _ _ _ _ us hl => match us, hl with | [_], _ => rfl
  have F_has_parts := fun_mk (st := s_has_parts) l_has_parts c_has_parts k_has_parts
  have b_has_parts := F_has_parts.binds (ps := ["value"]) fun _ _ _ _ _ _ us hl => match us, hl with | [_], _ => rfl
  have F_is_world := fun_mk (st := s_is_world) l_is_world c_is_world k_is_world
  have b_is_world := F_is_world.binds (ps := ["scheme", "value"]) fun _ _ _ _ _ _ us hl => match us, hl with | [_, _], _ => rfl
  have F_Scheme_threads := fun_mk (st := s_Scheme_threads) l_Scheme_threads c_Scheme_threads k_Scheme_threads
  have b_Scheme_threads := F_Scheme_threads.binds (ps := ["self"]) fun _ _ _ _ _ _ us hl => match us, hl with | [_], _ => rfl
  have F_beginning := fun_mk (st := s_beginning) l_beginning c_beginning k_beginning
  have b_beginning := F_beginning.binds (ps := ["scheme"]) fun _ _ _ _ _ _ us hl => match us, hl with | [_], _ => rfl
  have F_Machine_init := fun_mk (st := s_Machine_init) l_Machine_init c_Machine_init k_Machine_init
  have b_Machine_init := F_Machine_init.binds (ps := ["self", "scheme"]) fun _ _ _ _ _ _ us hl => match us, hl with | [_, _], _ => rfl
  have F_Machine_steps := fun_mk (st := s_Machine_steps) l_Machine_steps c_Machine_steps k_Machine_steps
  have b_Machine_steps := F_Machine_steps.binds (ps := ["self"]) fun _ _ _ _ _ _ us hl => match us, hl with | [_], _ => rfl
  have F_Machine_state := fun_mk (st := s_Machine_state) l_Machine_state c_Machine_state k_Machine_state
  have b_Machine_state := F_Machine_state.binds (ps := ["self"]) fun _ _ _ _ _ _ us hl => match us, hl with | [_], _ => rfl
  have F_Scheme_handler := fun_mk (st := s_Scheme_handler) l_Scheme_handler c_Scheme_handler k_Scheme_handler
  have b_Scheme_handler := F_Scheme_handler.binds (ps := ["self"]) fun _ _ _ _ _ _ us hl => match us, hl with | [_], _ => rfl
  have F_turn := fun_mk (st := s_turn) l_turn c_turn k_turn
  have b_turn := F_turn.binds (ps := ["scheme", "state"]) fun _ _ _ _ _ _ us hl => match us, hl with | [_, _], _ => rfl
  have F_place_after := fun_mk (st := s_place_after) l_place_after c_place_after k_place_after
  have b_place_after := F_place_after.binds (ps := ["instruction", "place", "hand"]) fun _ _ _ _ _ _ us hl => match us, hl with | [_, _, _], _ => rfl
  have F_hand_after := fun_mk (st := s_hand_after) l_hand_after c_hand_after k_hand_after
  have b_hand_after := F_hand_after.binds (ps := ["instruction", "hand", "state", "world"]) fun _ _ _ _ _ _ us hl => match us, hl with | [_, _, _, _], _ => rfl
  have F_replaced := fun_mk (st := s_replaced) l_replaced c_replaced k_replaced
  have b_replaced := F_replaced.binds (ps := ["items", "index", "item"]) fun _ _ _ _ _ _ us hl => match us, hl with | [_, _, _], _ => rfl
  have F_cells_after := fun_mk (st := s_cells_after) l_cells_after c_cells_after k_cells_after
  have b_cells_after := F_cells_after.binds (ps := ["instruction", "hand", "cells", "world"]) fun _ _ _ _ _ _ us hl => match us, hl with | [_, _, _, _], _ => rfl
  have F_instructed := fun_mk (st := s_instructed) l_instructed c_instructed k_instructed
  have b_instructed := F_instructed.binds (ps := ["scheme", "ready", "world"]) fun _ _ _ _ _ _ us hl => match us, hl with | [_, _, _], _ => rfl
  have F_before_instruction := fun_mk (st := s_before_instruction) l_before_instruction c_before_instruction k_before_instruction
  have b_before_instruction := F_before_instruction.binds (ps := ["scheme", "state", "world"]) fun _ _ _ _ _ _ us hl => match us, hl with | [_, _, _], _ => rfl
  have F_stepped := fun_mk (st := s_stepped) l_stepped c_stepped k_stepped
  have b_stepped := F_stepped.binds (ps := ["scheme", "state", "world"]) fun _ _ _ _ _ _ us hl => match us, hl with | [_, _, _], _ => rfl
  have F_Machine_step := fun_mk (st := s_Machine_step) l_Machine_step c_Machine_step k_Machine_step
  have b_Machine_step := F_Machine_step.binds (ps := ["self", "world"]) fun _ _ _ _ _ _ us hl => match us, hl with | [_, _], _ => rfl
  have F_upcoming := fun_mk (st := s_upcoming) l_upcoming c_upcoming k_upcoming
  have b_upcoming := F_upcoming.binds (ps := ["scheme", "state"]) fun _ _ _ _ _ _ us hl => match us, hl with | [_, _], _ => rfl
  have F_Machine_next := fun_mk (st := s_Machine_next) l_Machine_next c_Machine_next k_Machine_next
  have b_Machine_next := F_Machine_next.binds (ps := ["self"]) fun _ _ _ _ _ _ us hl => match us, hl with | [_], _ => rfl
  have F_machine_at := fun_mk (st := s_machine_at) l_machine_at c_machine_at k_machine_at
  have b_machine_at := F_machine_at.binds (ps := ["scheme", "state"]) fun _ _ _ _ _ _ us hl => match us, hl with | [_, _], _ => rfl
  have F_Machine_copy := fun_mk (st := s_Machine_copy) l_Machine_copy c_Machine_copy k_Machine_copy
  have b_Machine_copy := F_Machine_copy.binds (ps := ["self"]) fun _ _ _ _ _ _ us hl => match us, hl with | [_], _ => rfl
  have F_Scheme_eq := fun_mk (st := s_Scheme_eq) l_Scheme_eq c_Scheme_eq k_Scheme_eq
  have b_Scheme_eq := F_Scheme_eq.binds (ps := ["self", "other"]) fun _ _ _ _ _ _ us hl => match us, hl with | [_, _], _ => rfl
  have F_Machine_eq := fun_mk (st := s_Machine_eq) l_Machine_eq c_Machine_eq k_Machine_eq
  have b_Machine_eq := F_Machine_eq.binds (ps := ["self", "other"]) fun _ _ _ _ _ _ us hl => match us, hl with | [_, _], _ => rfl
  have F_check_worlds := fun_mk (st := s_check_worlds) l_check_worlds c_check_worlds k_check_worlds
  have b_check_worlds := F_check_worlds.binds (ps := ["scheme", "worlds", "most"]) fun _ _ _ _ _ _ us hl => match us, hl with | [_, _, _], _ => rfl
  have F_check_run := fun_mk (st := s_check_run) l_check_run c_check_run k_check_run
  have b_check_run := F_check_run.binds (ps := ["scheme", "worlds"]) fun _ _ _ _ _ _ us hl => match us, hl with | [_, _], _ => rfl
  have F_shown_by := fun_mk (st := s_shown_by) l_shown_by c_shown_by k_shown_by
  have b_shown_by := F_shown_by.binds (ps := ["scheme", "worlds"]) fun _ _ _ _ _ _ us hl => match us, hl with | [_, _], _ => rfl
  have F_shown := fun_mk (st := s_shown) l_shown c_shown k_shown
  have b_shown := F_shown.binds (ps := ["scheme", "worlds"]) fun _ _ _ _ _ _ us hl => match us, hl with | [_, _], _ => rfl
  have F__law_world := fun_mk (st := s__law_world) l__law_world c__law_world k__law_world
  have b__law_world := F__law_world.binds (ps := ["_law_draw_here", "_law_sorts"]) fun _ _ _ _ _ _ us hl => match us, hl with | [_, _], _ => rfl
  have F__law_start := fun_mk (st := s__law_start) l__law_start c__law_start k__law_start
  have b__law_start := F__law_start.binds (ps := ["_law_scheme_here"]) fun _ _ _ _ _ _ us hl => match us, hl with | [_], _ => rfl
  have F__law_state := fun_mk (st := s__law_state) l__law_state c__law_state k__law_state
  have b__law_state := F__law_state.binds (ps := ["_law_core_here"]) fun _ _ _ _ _ _ us hl => match us, hl with | [_], _ => rfl
  have F__law_meet := fun_mk (st := s__law_meet) l__law_meet c__law_meet k__law_meet
  have b__law_meet := F__law_meet.binds (ps := ["_law_scheme_here", "_law_core_here", "_law_world_here"]) fun _ _ _ _ _ _ us hl => match us, hl with | [_, _, _], _ => rfl
  have F__law_brought := fun_mk (st := s__law_brought) l__law_brought c__law_brought k__law_brought
  have b__law_brought := F__law_brought.binds (ps := ["_law_core_here", "_law_word", "_law_number_here", "_law_world_here"]) fun _ _ _ _ _ _ us hl => match us, hl with | [_, _, _, _], _ => rfl
  have F__law_step := fun_mk (st := s__law_step) l__law_step c__law_step k__law_step
  have b__law_step := F__law_step.binds (ps := ["_law_scheme_here", "_law_core_here", "_law_world_here"]) fun _ _ _ _ _ _ us hl => match us, hl with | [_, _, _], _ => rfl
  have F__law_core := fun_mk (st := s__law_core) l__law_core c__law_core k__law_core
  have b__law_core := F__law_core.binds (ps := ["_law_value"]) fun _ _ _ _ _ _ us hl => match us, hl with | [_], _ => rfl
  have F__law_next_one := fun_mk (st := s__law_next_one) l__law_next_one c__law_next_one k__law_next_one
  have b__law_next_one := F__law_next_one.binds (ps := ["_law_scheme_here", "_law_core_here"]) fun _ _ _ _ _ _ us hl => match us, hl with | [_, _], _ => rfl
  have F__law_run_right := fun_mk (st := s__law_run_right) l__law_run_right c__law_run_right k__law_run_right
  have b__law_run_right := F__law_run_right.binds (ps := ["_law_draw_here", "_law_scheme_here", "_law_many"]) fun _ _ _ _ _ _ us hl => match us, hl with | [_, _, _], _ => rfl
  have F_law := fun_mk (st := s_law) l_law c_law k_law
  have b_law := F_law.binds (ps := ["_law_script"]) fun _ _ _ _ _ _ us hl => match us, hl with | [_], _ => rfl
  refine ⟨PySem.W.fnOf "law" "law" (defArgs s_law) (defBody s_law) (defScope s_law) .none kV_law dc_law pm_law an_law cd_law ct_law, fun s v => .of_eq rfl, fun base _ _ => ?_⟩
  have o__law_cell_at : FnOk l.prog w K mg base CX0 1 f__law_cell_at _ ["_law_script", "_law_k"] (cF K cl 2 A__law_cell_at) := ok__law_cell_at (cl := cl) n_len F__law_cell_at
  have h__law_cell_at : CallOk l.prog w K mg base cl "_law_cell_at" 1 2 A__law_cell_at := ⟨f__law_cell_at, _, _, PySem.W.mg_of X G a__law_cell_at, k__law_cell_at, o__law_cell_at, b__law_cell_at⟩
  have o__law_draw : FnOk l.prog w K mg base CX0 1 f__law_draw _ ["_law_cell", "_law_k", "_law_bound"] (cF K cl 3 A__law_draw) := ok__law_draw (cl := cl) n_int F__law_draw
  have h__law_draw : CallOk l.prog w K mg base cl "_law_draw" 1 3 A__law_draw := ⟨f__law_draw, _, _, PySem.W.mg_of X G a__law_draw, k__law_draw, o__law_draw, b__law_draw⟩
  have o__law_number : FnOk l.prog w K mg base CX0 2 f__law_number _ ["_law_cell", "_law_k", "_law_bound"] (cF K cl 3 A__law_number) := ok__law_number (cl := cl) n_int n_range h__law_draw F__law_number
  have h__law_number : CallOk l.prog w K mg base cl "_law_number" 2 3 A__law_number := ⟨f__law_number, _, _, PySem.W.mg_of X G a__law_number, k__law_number, o__law_number, b__law_number⟩
  have o__law_next : FnOk l.prog w K mg base CX0 3 f__law_next _ ["_law_draw_here", "_law_bound"] (cF K cl 2 A__law_next) := ok__law_next (cl := cl) h__law_cell_at n_int h__law_number F__law_next
  have h__law_next : CallOk l.prog w K mg base cl "_law_next" 3 2 A__law_next := ⟨f__law_next, _, _, PySem.W.mg_of X G a__law_next, k__law_next, o__law_next, b__law_next⟩
  have o_is_number : FnOk l.prog w K mg base CX0 1 f_is_number _ ["value", "least", "greatest"] (cF K cl 3 A_is_number) := ok_is_number (cl := cl) n_isinstance n_int n_bool F_is_number
  have h_is_number : CallOk l.prog w K mg base cl "is_number" 1 3 A_is_number := ⟨f_is_number, _, _, PySem.W.mg_of X G a_is_number, k_is_number, o_is_number, b_is_number⟩
  have o_is_instruction : FnOk l.prog w K mg base CX0 2 f_is_instruction _ ["value", "places"] (cF K cl 2 A_is_instruction) := ok_is_instruction (cl := cl) n_isinstance n_tuple n_len n_str h_is_number k_GREATEST F_is_instruction
  have h_is_instruction : CallOk l.prog w K mg base cl "is_instruction" 2 2 A_is_instruction := ⟨f_is_instruction, _, _, PySem.W.mg_of X G a_is_instruction, k_is_instruction, o_is_instruction, b_is_instruction⟩
  have o_is_code : FnOk l.prog w K mg base CX0 3 f_is_code _ ["value", "least", "most"] (cF K cl 3 A_is_code) := ok_is_code (cl := cl) n_isinstance n_tuple n_len h_is_instruction n_all F_is_code
  have h_is_code : CallOk l.prog w K mg base cl "is_code" 3 3 A_is_code := ⟨f_is_code, _, _, PySem.W.mg_of X G a_is_code, k_is_code, o_is_code, b_is_code⟩
  have o_are_threads : FnOk l.prog w K mg base CX0 4 f_are_threads _ ["value"] (cF K cl 1 A_are_threads) := ok_are_threads (cl := cl) n_isinstance n_tuple n_len h_is_code n_all F_are_threads
  have h_are_threads : CallOk l.prog w K mg base cl "are_threads" 4 1 A_are_threads := ⟨f_are_threads, _, _, PySem.W.mg_of X G a_are_threads, k_are_threads, o_are_threads, b_are_threads⟩
  have o_is_kinds_of : FnOk l.prog w K mg base CX0 1 f_is_kinds_of _ ["among", "value"] (cF K cl 2 A_is_kinds_of) := ok_is_kinds_of (cl := cl) n_isinstance n_tuple n_str n_all F_is_kinds_of
  have h_is_kinds_of : CallOk l.prog w K mg base cl "is_kinds_of" 1 2 A_is_kinds_of := ⟨f_is_kinds_of, _, _, PySem.W.mg_of X G a_is_kinds_of, k_is_kinds_of, o_is_kinds_of, b_is_kinds_of⟩
  have o_Scheme_init : FnOk l.prog w K mg base CX0 5 f_Scheme_init _ ["self", "threads", "handler", "kinds"] (cF K cl 4 A_Scheme_init) := ok_Scheme_init (cl := cl) h_are_threads h_is_code g_ALL_KINDS h_is_kinds_of t_threads t_handler t_kinds F_Scheme_init
  have mk_Scheme : MakeKOk l.prog w K mg base cl 0 "Scheme" ["handler", "kinds"] 5 1 4 gD_Scheme A_Scheme_init := by
    refine ⟨f_Scheme_init, _, _, fun us ws => us ++ ws, fun vs zs => vs ++ zs, ⟨mk0, a_Scheme_init, i_Scheme_init, kc0⟩, PySem.W.mg_of X G ns0, o_Scheme_init, ⟨fun s us ws _ h1 h2 => ?_, fun r1 r2 => r1.append r2⟩, fun ρ H vs es zs ws h1 h2 r1 r2 => ⟨?_, r1.append r2⟩⟩
    · exact match us, h1, ws, h2 with | [_, _], _, [_, _], _ => .of_eq rfl
    · rw [List.length_append, r1.length, r2.length, h1, h2] <;> rfl
  have o__law_pick : FnOk l.prog w K mg base CX0 4 f__law_pick _ ["_law_draw_here", "_law_things"] (cF K cl 2 A__law_pick) := ok__law_pick (cl := cl) n_len h__law_next F__law_pick
  have h__law_pick : CallOk l.prog w K mg base cl "_law_pick" 4 2 A__law_pick := ⟨f__law_pick, _, _, PySem.W.mg_of X G a__law_pick, k__law_pick, o__law_pick, b__law_pick⟩
  have o__law_instruction : FnOk l.prog w K mg base CX0 5 f__law_instruction _ ["_law_draw_here", "_law_many"] (cF K cl 2 A__law_instruction) := ok__law_instruction (cl := cl) h__law_pick h__law_next F__law_instruction
  have h__law_instruction : CallOk l.prog w K mg base cl "_law_instruction" 5 2 A__law_instruction := ⟨f__law_instruction, _, _, PySem.W.mg_of X G a__law_instruction, k__law_instruction, o__law_instruction, b__law_instruction⟩
  have o__law_code : FnOk l.prog w K mg base CX0 6 f__law_code _ ["_law_draw_here", "_law_least", "_law_most"] (cF K cl 3 A__law_code) := ok__law_code (cl := cl) h__law_next n_range h__law_instruction n_tuple F__law_code
  have h__law_code : CallOk l.prog w K mg base cl "_law_code" 6 3 A__law_code := ⟨f__law_code, _, _, PySem.W.mg_of X G a__law_code, k__law_code, o__law_code, b__law_code⟩
  have o__law_scheme : FnOk l.prog w K mg base CX0 7 f__law_scheme _ ["_law_draw_here", "_law_threads", "_law_most", "_law_sorts"] (cF K cl 4 A__law_scheme) := ok__law_scheme (cl := cl) h__law_next n_range h__law_code n_tuple mk_Scheme F__law_scheme
  have h__law_scheme : CallOk l.prog w K mg base cl "_law_scheme" 7 4 A__law_scheme := ⟨f__law_scheme, _, _, PySem.W.mg_of X G a__law_scheme, k__law_scheme, o__law_scheme, b__law_scheme⟩
  have o_Scheme_kinds : FnOk l.prog w K mg base CX0 1 f_Scheme_kinds _ ["self"] (cF K cl 1 A_Scheme_kinds) := ok_Scheme_kinds (cl := cl) t_kinds F_Scheme_kinds
  have p_Scheme_kinds : PropOk l.prog w K mg base cl 0 "kinds" 1 A_Scheme_kinds := ⟨p_Scheme_kinds, f_Scheme_kinds, _, _, cls0, ⟨a_Scheme_kinds, g_Scheme_kinds, tk_Scheme_kinds, ⟨_, rc_Scheme_kinds⟩⟩, o_Scheme_kinds, b_Scheme_kinds⟩
  have o_check_scheme : FnOk l.prog w K mg base CX0 1 f_check_scheme _ ["scheme"] (cF K cl 1 A_check_scheme) := ok_check_scheme (cl := cl) n_isinstance i_Scheme mc_Scheme F_check_scheme
  have h_check_scheme : CallOk l.prog w K mg base cl "check_scheme" 1 1 A_check_scheme := ⟨f_check_scheme, _, _, PySem.W.mg_of X G a_check_scheme, k_check_scheme, o_check_scheme, b_check_scheme⟩
  have o_has_parts : FnOk l.prog w K mg base CX0 2 f_has_parts _ ["value"] (cF K cl 1 A_has_parts) := ok_has_parts (cl := cl) n_isinstance n_tuple n_len g_QUIET n_bool n_all h_is_number F_has_parts
  have h_has_parts : CallOk l.prog w K mg base cl "has_parts" 2 1 A_has_parts := ⟨f_has_parts, _, _, PySem.W.mg_of X G a_has_parts, k_has_parts, o_has_parts, b_has_parts⟩
  have o_is_world : FnOk l.prog w K mg base CX0 3 f_is_world _ ["scheme", "value"] (cF K cl 2 A_is_world) := ok_is_world (cl := cl) h_check_scheme h_has_parts p_Scheme_kinds g_QUIET g_ALL_KINDS n_list n_zip n_all F_is_world
  have h_is_world : CallOk l.prog w K mg base cl "is_world" 3 2 A_is_world := ⟨f_is_world, _, _, PySem.W.mg_of X G a_is_world, k_is_world, o_is_world, b_is_world⟩
  have o_Scheme_threads : FnOk l.prog w K mg base CX0 1 f_Scheme_threads _ ["self"] (cF K cl 1 A_Scheme_threads) := ok_Scheme_threads (cl := cl) t_threads F_Scheme_threads
  have p_Scheme_threads : PropOk l.prog w K mg base cl 0 "threads" 1 A_Scheme_threads := ⟨p_Scheme_threads, f_Scheme_threads, _, _, cls0, ⟨a_Scheme_threads, g_Scheme_threads, tk_Scheme_threads, ⟨_, rc_Scheme_threads⟩⟩, o_Scheme_threads, b_Scheme_threads⟩
  have o_beginning : FnOk l.prog w K mg base CX0 3 f_beginning _ ["scheme"] (cF K cl 1 A_beginning) := ok_beginning (cl := cl) p_Scheme_threads n_len F_beginning
  have h_beginning : CallOk l.prog w K mg base cl "beginning" 3 1 A_beginning := ⟨f_beginning, _, _, PySem.W.mg_of X G a_beginning, k_beginning, o_beginning, b_beginning⟩
  have o_Machine_init : FnOk l.prog w K mg base CX0 4 f_Machine_init _ ["self", "scheme"] (cF K cl 2 A_Machine_init) := ok_Machine_init (cl := cl) h_check_scheme t_scheme h_beginning t_state t_steps F_Machine_init
  have m_Machine : MakeOk l.prog w K mg base cl 1 "Machine" 4 1 A_Machine_init := ⟨f_Machine_init, _, _, ⟨mk1, a_Machine_init, i_Machine_init, kc1⟩, PySem.W.mg_of X G ns1, o_Machine_init, b_Machine_init⟩
  have o_Machine_steps : FnOk l.prog w K mg base CX0 1 f_Machine_steps _ ["self"] (cF K cl 1 A_Machine_steps) := ok_Machine_steps (cl := cl) t_steps F_Machine_steps
  have p_Machine_steps : PropOk l.prog w K mg base cl 1 "steps" 1 A_Machine_steps := ⟨p_Machine_steps, f_Machine_steps, _, _, cls1, ⟨a_Machine_steps, g_Machine_steps, tk_Machine_steps, ⟨_, rc_Machine_steps⟩⟩, o_Machine_steps, b_Machine_steps⟩
  have o_Machine_state : FnOk l.prog w K mg base CX0 1 f_Machine_state _ ["self"] (cF K cl 1 A_Machine_state) := ok_Machine_state (cl := cl) t_state F_Machine_state
  have p_Machine_state : PropOk l.prog w K mg base cl 1 "state" 1 A_Machine_state := ⟨p_Machine_state, f_Machine_state, _, _, cls1, ⟨a_Machine_state, g_Machine_state, tk_Machine_state, ⟨_, rc_Machine_state⟩⟩, o_Machine_state, b_Machine_state⟩
  have o_Scheme_handler : FnOk l.prog w K mg base CX0 1 f_Scheme_handler _ ["self"] (cF K cl 1 A_Scheme_handler) := ok_Scheme_handler (cl := cl) t_handler F_Scheme_handler
  have p_Scheme_handler : PropOk l.prog w K mg base cl 0 "handler" 1 A_Scheme_handler := ⟨p_Scheme_handler, f_Scheme_handler, _, _, cls0, ⟨a_Scheme_handler, g_Scheme_handler, tk_Scheme_handler, ⟨_, rc_Scheme_handler⟩⟩, o_Scheme_handler, b_Scheme_handler⟩
  have o_turn : FnOk l.prog w K mg base CX0 3 f_turn _ ["scheme", "state"] (cF K cl 2 A_turn) := ok_turn (cl := cl) p_Scheme_threads p_Scheme_handler F_turn
  have h_turn : CallOk l.prog w K mg base cl "turn" 3 2 A_turn := ⟨f_turn, _, _, PySem.W.mg_of X G a_turn, k_turn, o_turn, b_turn⟩
  have o_place_after : FnOk l.prog w K mg base CX0 1 f_place_after _ ["instruction", "place", "hand"] (cF K cl 3 A_place_after) := ok_place_after (cl := cl)  F_place_after
  have h_place_after : CallOk l.prog w K mg base cl "place_after" 1 3 A_place_after := ⟨f_place_after, _, _, PySem.W.mg_of X G a_place_after, k_place_after, o_place_after, b_place_after⟩
  have o_hand_after : FnOk l.prog w K mg base CX0 1 f_hand_after _ ["instruction", "hand", "state", "world"] (cF K cl 4 A_hand_after) := ok_hand_after (cl := cl) n_len F_hand_after
  have h_hand_after : CallOk l.prog w K mg base cl "hand_after" 1 4 A_hand_after := ⟨f_hand_after, _, _, PySem.W.mg_of X G a_hand_after, k_hand_after, o_hand_after, b_hand_after⟩
  have o_replaced : FnOk l.prog w K mg base CX0 1 f_replaced _ ["items", "index", "item"] (cF K cl 3 A_replaced) := ok_replaced (cl := cl)  F_replaced
  have h_replaced : CallOk l.prog w K mg base cl "replaced" 1 3 A_replaced := ⟨f_replaced, _, _, PySem.W.mg_of X G a_replaced, k_replaced, o_replaced, b_replaced⟩
  have o_cells_after : FnOk l.prog w K mg base CX0 2 f_cells_after _ ["instruction", "hand", "cells", "world"] (cF K cl 4 A_cells_after) := ok_cells_after (cl := cl) h_replaced F_cells_after
  have h_cells_after : CallOk l.prog w K mg base cl "cells_after" 2 4 A_cells_after := ⟨f_cells_after, _, _, PySem.W.mg_of X G a_cells_after, k_cells_after, o_cells_after, b_cells_after⟩
  have o_instructed : FnOk l.prog w K mg base CX0 4 f_instructed _ ["scheme", "ready", "world"] (cF K cl 3 A_instructed) := ok_instructed (cl := cl) h_turn h_place_after h_hand_after n_len h_replaced h_cells_after F_instructed
  have h_instructed : CallOk l.prog w K mg base cl "instructed" 4 3 A_instructed := ⟨f_instructed, _, _, PySem.W.mg_of X G a_instructed, k_instructed, o_instructed, b_instructed⟩
  have o_before_instruction : FnOk l.prog w K mg base CX0 3 f_before_instruction _ ["scheme", "state", "world"] (cF K cl 3 A_before_instruction) := ok_before_instruction (cl := cl) n_len g_MOST_WORDS p_Scheme_handler F_before_instruction
  have h_before_instruction : CallOk l.prog w K mg base cl "before_instruction" 3 3 A_before_instruction := ⟨f_before_instruction, _, _, PySem.W.mg_of X G a_before_instruction, k_before_instruction, o_before_instruction, b_before_instruction⟩
  have o_stepped : FnOk l.prog w K mg base CX0 5 f_stepped _ ["scheme", "state", "world"] (cF K cl 3 A_stepped) := ok_stepped (cl := cl) h_before_instruction h_instructed F_stepped
  have h_stepped : CallOk l.prog w K mg base cl "stepped" 5 3 A_stepped := ⟨f_stepped, _, _, PySem.W.mg_of X G a_stepped, k_stepped, o_stepped, b_stepped⟩
  have o_Machine_step : FnOk l.prog w K mg base CX0 6 f_Machine_step _ ["self", "world"] (cF K cl 2 A_Machine_step) := ok_Machine_step (cl := cl) t_scheme h_is_world t_state h_stepped t_steps F_Machine_step
  have m_Machine_step : MethOk l.prog w K mg base cl 1 "step" 6 2 A_Machine_step := ⟨f_Machine_step, _, _, cls1, ⟨a_Machine_step, i_Machine_step, k_Machine_step⟩, o_Machine_step, b_Machine_step⟩
  have o_upcoming : FnOk l.prog w K mg base CX0 4 f_upcoming _ ["scheme", "state"] (cF K cl 2 A_upcoming) := ok_upcoming (cl := cl) g_QUIET h_before_instruction h_turn F_upcoming
  have h_upcoming : CallOk l.prog w K mg base cl "upcoming" 4 2 A_upcoming := ⟨f_upcoming, _, _, PySem.W.mg_of X G a_upcoming, k_upcoming, o_upcoming, b_upcoming⟩
  have o_Machine_next : FnOk l.prog w K mg base CX0 5 f_Machine_next _ ["self"] (cF K cl 1 A_Machine_next) := ok_Machine_next (cl := cl) t_state t_scheme h_upcoming F_Machine_next
  have m_Machine_next : MethOk l.prog w K mg base cl 1 "next" 5 1 A_Machine_next := ⟨f_Machine_next, _, _, cls1, ⟨a_Machine_next, i_Machine_next, k_Machine_next⟩, o_Machine_next, b_Machine_next⟩
  have o_machine_at : FnOk l.prog w K mg base CX0 6 f_machine_at _ ["scheme", "state"] (cF K cl 2 A_machine_at) := ok_machine_at (cl := cl) m_Machine t_state F_machine_at
  have h_machine_at : CallOk l.prog w K mg base cl "machine_at" 6 2 A_machine_at := ⟨f_machine_at, _, _, PySem.W.mg_of X G a_machine_at, k_machine_at, o_machine_at, b_machine_at⟩
  have o_Machine_copy : FnOk l.prog w K mg base CX0 7 f_Machine_copy _ ["self"] (cF K cl 1 A_Machine_copy) := ok_Machine_copy (cl := cl) t_state t_scheme h_machine_at t_steps F_Machine_copy
  have m_Machine_copy : MethOk l.prog w K mg base cl 1 "copy" 7 1 A_Machine_copy := ⟨f_Machine_copy, _, _, cls1, ⟨a_Machine_copy, i_Machine_copy, k_Machine_copy⟩, o_Machine_copy, b_Machine_copy⟩
  have o_Scheme_eq : FnOk l.prog w K mg base CX0 1 f_Scheme_eq _ ["self", "other"] (cF K cl 2 A_Scheme_eq) := ok_Scheme_eq (cl := cl) n_isinstance i_Scheme mc_Scheme t_kinds t_handler t_threads F_Scheme_eq
  have e_Scheme : EqOk l.prog w K mg base cl 0 1 A_Scheme_eq := ⟨f_Scheme_eq, _, _, a_Scheme_eq, i_Scheme_eq, o_Scheme_eq, b_Scheme_eq⟩
  have o_Machine_eq : FnOk l.prog w K mg base CX0 2 f_Machine_eq _ ["self", "other"] (cF K cl 2 A_Machine_eq) := ok_Machine_eq (cl := cl) n_isinstance i_Machine mc_Machine e_Scheme t_scheme t_state F_Machine_eq
  have e_Machine : EqOk l.prog w K mg base cl 1 2 A_Machine_eq := ⟨f_Machine_eq, _, _, a_Machine_eq, i_Machine_eq, o_Machine_eq, b_Machine_eq⟩
  have o_check_worlds : FnOk l.prog w K mg base CX0 4 f_check_worlds _ ["scheme", "worlds", "most"] (cF K cl 3 A_check_worlds) := ok_check_worlds (cl := cl) n_isinstance n_list n_tuple n_len n_enumerate h_is_world F_check_worlds
  have h_check_worlds : CallOk l.prog w K mg base cl "check_worlds" 4 3 A_check_worlds := ⟨f_check_worlds, _, _, PySem.W.mg_of X G a_check_worlds, k_check_worlds, o_check_worlds, b_check_worlds⟩
  have o_check_run : FnOk l.prog w K mg base CX0 5 f_check_run _ ["scheme", "worlds"] (cF K cl 2 A_check_run) := ok_check_run (cl := cl) h_check_scheme g_LONGEST_RUN h_check_worlds F_check_run
  have h_check_run : CallOk l.prog w K mg base cl "check_run" 5 2 A_check_run := ⟨f_check_run, _, _, PySem.W.mg_of X G a_check_run, k_check_run, o_check_run, b_check_run⟩
  have o_shown_by : FnOk l.prog w K mg base CX0 6 f_shown_by _ ["scheme", "worlds"] (cF K cl 2 A_shown_by) := ok_shown_by (cl := cl) h_beginning h_stepped F_shown_by
  have h_shown_by : CallOk l.prog w K mg base cl "shown_by" 6 2 A_shown_by := ⟨f_shown_by, _, _, PySem.W.mg_of X G a_shown_by, k_shown_by, o_shown_by, b_shown_by⟩
  have o_shown : FnOk l.prog w K mg base CX0 7 f_shown _ ["scheme", "worlds"] (cF K cl 2 A_shown) := ok_shown (cl := cl) h_check_run h_shown_by F_shown
  have h_shown : CallOk l.prog w K mg base cl "shown" 7 2 A_shown := ⟨f_shown, _, _, PySem.W.mg_of X G a_shown, k_shown, o_shown, b_shown⟩
  have o__law_world : FnOk l.prog w K mg base CX0 4 f__law_world _ ["_law_draw_here", "_law_sorts"] (cF K cl 2 A__law_world) := ok__law_world (cl := cl) g_ALL_KINDS n_enumerate h__law_next n_tuple F__law_world
  have h__law_world : CallOk l.prog w K mg base cl "_law_world" 4 2 A__law_world := ⟨f__law_world, _, _, PySem.W.mg_of X G a__law_world, k__law_world, o__law_world, b__law_world⟩
  have o__law_start : FnOk l.prog w K mg base CX0 3 f__law_start _ ["_law_scheme_here"] (cF K cl 1 A__law_start) := ok__law_start (cl := cl) p_Scheme_threads F__law_start
  have h__law_start : CallOk l.prog w K mg base cl "_law_start" 3 1 A__law_start := ⟨f__law_start, _, _, PySem.W.mg_of X G a__law_start, k__law_start, o__law_start, b__law_start⟩
  have o__law_state : FnOk l.prog w K mg base CX0 1 f__law_state _ ["_law_core_here"] (cF K cl 1 A__law_state) := ok__law_state (cl := cl) n_tuple F__law_state
  have h__law_state : CallOk l.prog w K mg base cl "_law_state" 1 1 A__law_state := ⟨f__law_state, _, _, PySem.W.mg_of X G a__law_state, k__law_state, o__law_state, b__law_state⟩
  have o__law_meet : FnOk l.prog w K mg base CX0 3 f__law_meet _ ["_law_scheme_here", "_law_core_here", "_law_world_here"] (cF K cl 3 A__law_meet) := ok__law_meet (cl := cl) n_int n_len p_Scheme_handler F__law_meet
  have h__law_meet : CallOk l.prog w K mg base cl "_law_meet" 3 3 A__law_meet := ⟨f__law_meet, _, _, PySem.W.mg_of X G a__law_meet, k__law_meet, o__law_meet, b__law_meet⟩
  have o__law_brought : FnOk l.prog w K mg base CX0 1 f__law_brought _ ["_law_core_here", "_law_word", "_law_number_here", "_law_world_here"] (cF K cl 4 A__law_brought) := ok__law_brought (cl := cl) n_len F__law_brought
  have h__law_brought : CallOk l.prog w K mg base cl "_law_brought" 1 4 A__law_brought := ⟨f__law_brought, _, _, PySem.W.mg_of X G a__law_brought, k__law_brought, o__law_brought, b__law_brought⟩
  have o__law_step : FnOk l.prog w K mg base CX0 4 f__law_step _ ["_law_scheme_here", "_law_core_here", "_law_world_here"] (cF K cl 3 A__law_step) := ok__law_step (cl := cl) h__law_meet p_Scheme_threads p_Scheme_handler n_int h__law_brought n_len F__law_step
  have h__law_step : CallOk l.prog w K mg base cl "_law_step" 4 3 A__law_step := ⟨f__law_step, _, _, PySem.W.mg_of X G a__law_step, k__law_step, o__law_step, b__law_step⟩
  have o__law_core : FnOk l.prog w K mg base CX0 1 f__law_core _ ["_law_value"] (cF K cl 1 A__law_core) := ok__law_core (cl := cl) n_list F__law_core
  have h__law_core : CallOk l.prog w K mg base cl "_law_core" 1 1 A__law_core := ⟨f__law_core, _, _, PySem.W.mg_of X G a__law_core, k__law_core, o__law_core, b__law_core⟩
  have o__law_next_one : FnOk l.prog w K mg base CX0 4 f__law_next_one _ ["_law_scheme_here", "_law_core_here"] (cF K cl 2 A__law_next_one) := ok__law_next_one (cl := cl) h__law_state h__law_core g_QUIET h__law_meet p_Scheme_handler p_Scheme_threads F__law_next_one
  have h__law_next_one : CallOk l.prog w K mg base cl "_law_next_one" 4 2 A__law_next_one := ⟨f__law_next_one, _, _, PySem.W.mg_of X G a__law_next_one, k__law_next_one, o__law_next_one, b__law_next_one⟩
  have o__law_run_right : FnOk l.prog w K mg base CX0 8 f__law_run_right _ ["_law_draw_here", "_law_scheme_here", "_law_many"] (cF K cl 3 A__law_run_right) := ok__law_run_right (cl := cl) h__law_start m_Machine n_range p_Scheme_kinds h__law_world m_Machine_next h__law_next_one h_is_world m_Machine_copy p_Machine_state h_machine_at h__law_step m_Machine_step h__law_state p_Machine_steps e_Machine h_shown n_tuple F__law_run_right
  have h__law_run_right : CallOk l.prog w K mg base cl "_law_run_right" 8 3 A__law_run_right := ⟨f__law_run_right, _, _, PySem.W.mg_of X G a__law_run_right, k__law_run_right, o__law_run_right, b__law_run_right⟩
  have o_law : FnOk l.prog w K mg base CX0 9 f_law _ ["_law_script"] (cF K cl 1 A_law) := ok_law (cl := cl) n_len n_min n_max n_range g_ALL_KINDS h__law_scheme h__law_next h__law_run_right F_law
  have e := hfa.symm.trans (PySem.W.mg_of X G a_law)
  cases e
  exact o_law.imp (spLaw_of law_true)
theorem walk {l : PySem.W.OpenLaw} {q : Program} {loose : List Str} {XP : (Str → Option Value) → Heap → Prop} {YP : World → Heap → Prop} {d : DefRec} {K : Params → PySem.W.Frag} (hn : l.most = some 63) (hdf : d.params.defaults = [])
    (hY : ∀ (w : World) (h : Heap), YP w h → (K w.params).In h)
    (F : ∀ (w : World) (mg : Str → Option Value) (fa : Addr) (h : Heap), (K w.params).In h → h.Ns mainGlobals mg → mg d.name = some (.ref fa) →
      ∃ fd : FuncData, (∀ (s : Shared) (u : Value), BindsTo s fd ⟨[u], []⟩ [("_law_script", u)]) ∧ ∀ base : Heap, (K w.params).In base → base.Ns mainGlobals mg → FnOk l.prog w (K w.params) mg base CX0 9 fa fd ["_law_script"] (spLaw (K w.params))) :
    PySem.W.WalkO q loose XP YP l.row.toRowW d [] (fun f vs => PySem.call f vs) :=
  L2.walk_of (n := 63) (k := 9) (x := "_law_script") (CX := fun _ => CX0) (sp := fun w => spLaw (K w.params)) hn (by decide) hdf ⟨rfl, by decide, by decide⟩ hY F (fun _ _ a ns hl hO hS => ⟨a, ns, rfl, hO, hS, hl, fun _ => rfl⟩) fun _ _ _ _ _ z => z
end SM
open PySem PySem.W PyProof.Rows
set_option maxRecDepth 90001 in
set_option maxHeartbeats 0 in
theorem PySem.Challenge.cw_samerun_k01_whole_machine_holds : PySem.Challenge.rw_samerun_k01_whole_machine.Holds := by
  w_on; o_law; k_head; (case hw => w_witness2)
  k_fill
  refine SM.walk (l := PySem.Challenge.rw_samerun_k01_whole_machine) rfl rfl (fun w h Y => PySem.W.kIn_of Y) ?F
  case F =>
    intro w mg fa h KX G hmg
    refine' SM.all_mk KX G hmg ?a__law_cell_at ?l__law_cell_at ?c__law_cell_at ?k__law_cell_at ?a__law_draw ?l__law_draw ?c__law_draw ?k__law_draw ?a__law_number ?l__law_number ?c__law_number ?k__law_number ?a__law_next ?l__law_next ?c__law_next ?k__law_next ?a_is_number ?l_is_number ?c_is_number ?k_is_number ?a_is_instruction ?l_is_instruction ?c_is_instruction ?k_is_instruction ?a_is_code ?l_is_code ?c_is_code ?k_is_code ?a_are_threads ?l_are_threads ?c_are_threads ?k_are_threads ?a_is_kinds_of ?l_is_kinds_of ?c_is_kinds_of ?k_is_kinds_of ?a_Scheme_init ?i_Scheme_init ?l_Scheme_init ?c_Scheme_init ?k_Scheme_init ?a__law_pick ?l__law_pick ?c__law_pick ?k__law_pick ?a__law_instruction ?l__law_instruction ?c__law_instruction ?k__law_instruction ?a__law_code ?l__law_code ?c__law_code ?k__law_code ?a__law_scheme ?l__law_scheme ?c__law_scheme ?k__law_scheme ?a_Scheme_kinds ?g_Scheme_kinds ?tk_Scheme_kinds ?rc_Scheme_kinds ?l_Scheme_kinds ?c_Scheme_kinds ?k_Scheme_kinds ?a_check_scheme ?l_check_scheme ?c_check_scheme ?k_check_scheme ?a_has_parts ?l_has_parts ?c_has_parts ?k_has_parts ?a_is_world ?l_is_world ?c_is_world ?k_is_world ?a_Scheme_threads ?g_Scheme_threads ?tk_Scheme_threads ?rc_Scheme_threads ?l_Scheme_threads ?c_Scheme_threads ?k_Scheme_threads ?a_beginning ?l_beginning ?c_beginning ?k_beginning ?a_Machine_init ?i_Machine_init ?l_Machine_init ?c_Machine_init ?k_Machine_init ?a_Machine_steps ?g_Machine_steps ?tk_Machine_steps ?rc_Machine_steps ?l_Machine_steps ?c_Machine_steps ?k_Machine_steps ?a_Machine_state ?g_Machine_state ?tk_Machine_state ?rc_Machine_state ?l_Machine_state ?c_Machine_state ?k_Machine_state ?a_Scheme_handler ?g_Scheme_handler ?tk_Scheme_handler ?rc_Scheme_handler ?l_Scheme_handler ?c_Scheme_handler ?k_Scheme_handler ?a_turn ?l_turn ?c_turn ?k_turn ?a_place_after ?l_place_after ?c_place_after ?k_place_after ?a_hand_after ?l_hand_after ?c_hand_after ?k_hand_after ?a_replaced ?l_replaced ?c_replaced ?k_replaced ?a_cells_after ?l_cells_after ?c_cells_after ?k_cells_after ?a_instructed ?l_instructed ?c_instructed ?k_instructed ?a_before_instruction ?l_before_instruction ?c_before_instruction ?k_before_instruction ?a_stepped ?l_stepped ?c_stepped ?k_stepped ?a_Machine_step ?i_Machine_step ?l_Machine_step ?c_Machine_step ?k_Machine_step ?a_upcoming ?l_upcoming ?c_upcoming ?k_upcoming ?a_Machine_next ?i_Machine_next ?l_Machine_next ?c_Machine_next ?k_Machine_next ?a_machine_at ?l_machine_at ?c_machine_at ?k_machine_at ?a_Machine_copy ?i_Machine_copy ?l_Machine_copy ?c_Machine_copy ?k_Machine_copy ?a_Scheme_eq ?i_Scheme_eq ?l_Scheme_eq ?c_Scheme_eq ?k_Scheme_eq ?a_Machine_eq ?i_Machine_eq ?l_Machine_eq ?c_Machine_eq ?k_Machine_eq ?a_check_worlds ?l_check_worlds ?c_check_worlds ?k_check_worlds ?a_check_run ?l_check_run ?c_check_run ?k_check_run ?a_shown_by ?l_shown_by ?c_shown_by ?k_shown_by ?a_shown ?l_shown ?c_shown ?k_shown ?a__law_world ?l__law_world ?c__law_world ?k__law_world ?a__law_start ?l__law_start ?c__law_start ?k__law_start ?a__law_state ?l__law_state ?c__law_state ?k__law_state ?a__law_meet ?l__law_meet ?c__law_meet ?k__law_meet ?a__law_brought ?l__law_brought ?c__law_brought ?k__law_brought ?a__law_step ?l__law_step ?c__law_step ?k__law_step ?a__law_core ?l__law_core ?c__law_core ?k__law_core ?a__law_next_one ?l__law_next_one ?c__law_next_one ?k__law_next_one ?a__law_run_right ?l__law_run_right ?c__law_run_right ?k__law_run_right ?a_law ?l_law ?c_law ?k_law ?ns0 ?pg0 ?hd0 ?po0 ?sa0 ?mk0 ?kc0 ?ha0 ?hn0 ?ht0 ?hm0 ?ns1 ?pg1 ?hd1 ?po1 ?sa1 ?mk1 ?kc1 ?ha1 ?hn1 ?ht1 ?hm1 ?na0_threads ?na0_handler ?na0_kinds ?na1_scheme ?na1_state ?na1_steps ?zn_all ?zn_bool ?zn_enumerate ?zn_int ?zn_isinstance ?zn_len ?zn_list ?zn_max ?zn_min ?zn_range ?zn_str ?zn_tuple ?zn_zip ?a_ALL_KINDS ?l_ALL_KINDS ?a_QUIET ?l_QUIET ?a_MOST_WORDS ?a_LONGEST_RUN ?a_GREATEST ?l_GREATEST ?kl_GREATEST ?lo_GREATEST ?e0_GREATEST ?e1_GREATEST ?e2_GREATEST ?e3_GREATEST ?e4_GREATEST ?e5_GREATEST ?e6_GREATEST ?e7_GREATEST ?e8_GREATEST ?e9_GREATEST ?e10_GREATEST ?e11_GREATEST ?e12_GREATEST
    (case ns0 => k_is)
    (case ns1 => k_is)
    (case a__law_cell_at => k_is)
    (case l__law_cell_at => k_is)
    (case c__law_cell_at => k_is)
    (case k__law_cell_at => k_is)
    (case a__law_draw => k_is)
    (case l__law_draw => k_is)
    (case c__law_draw => k_is)
    (case k__law_draw => k_is)
    (case a__law_number => k_is)
    (case l__law_number => k_is)
    (case c__law_number => k_is)
    (case k__law_number => k_is)
    (case a__law_next => k_is)
    (case l__law_next => k_is)
    (case c__law_next => k_is)
    (case k__law_next => k_is)
    (case a_is_number => k_is)
    (case l_is_number => k_is)
    (case c_is_number => k_is)
    (case k_is_number => k_is)
    (case a_is_instruction => k_is)
    (case l_is_instruction => k_is)
    (case c_is_instruction => k_is)
    (case k_is_instruction => k_is)
    (case a_is_code => k_is)
    (case l_is_code => k_is)
    (case c_is_code => k_is)
    (case k_is_code => k_is)
    (case a_are_threads => k_is)
    (case l_are_threads => k_is)
    (case c_are_threads => k_is)
    (case k_are_threads => k_is)
    (case a_is_kinds_of => k_is)
    (case l_is_kinds_of => k_is)
    (case c_is_kinds_of => k_is)
    (case k_is_kinds_of => k_is)
    (case a_Scheme_init => k_is)
    (case i_Scheme_init => k_is)
    (case l_Scheme_init => k_is)
    (case c_Scheme_init => k_is)
    (case k_Scheme_init => k_is)
    (case a__law_pick => k_is)
    (case l__law_pick => k_is)
    (case c__law_pick => k_is)
    (case k__law_pick => k_is)
    (case a__law_instruction => k_is)
    (case l__law_instruction => k_is)
    (case c__law_instruction => k_is)
    (case k__law_instruction => k_is)
    (case a__law_code => k_is)
    (case l__law_code => k_is)
    (case c__law_code => k_is)
    (case k__law_code => k_is)
    (case a__law_scheme => k_is)
    (case l__law_scheme => k_is)
    (case c__law_scheme => k_is)
    (case k__law_scheme => k_is)
    (case a_Scheme_kinds => k_is)
    (case g_Scheme_kinds => k_is)
    (case tk_Scheme_kinds => k_is)
    (case rc_Scheme_kinds => k_is)
    (case l_Scheme_kinds => k_is)
    (case c_Scheme_kinds => k_is)
    (case k_Scheme_kinds => k_is)
    (case a_check_scheme => k_is)
    (case l_check_scheme => k_is)
    (case c_check_scheme => k_is)
    (case k_check_scheme => k_is)
    (case a_has_parts => k_is)
    (case l_has_parts => k_is)
    (case c_has_parts => k_is)
    (case k_has_parts => k_is)
    (case a_is_world => k_is)
    (case l_is_world => k_is)
    (case c_is_world => k_is)
    (case k_is_world => k_is)
    (case a_Scheme_threads => k_is)
    (case g_Scheme_threads => k_is)
    (case tk_Scheme_threads => k_is)
    (case rc_Scheme_threads => k_is)
    (case l_Scheme_threads => k_is)
    (case c_Scheme_threads => k_is)
    (case k_Scheme_threads => k_is)
    (case a_beginning => k_is)
    (case l_beginning => k_is)
    (case c_beginning => k_is)
    (case k_beginning => k_is)
    (case a_Machine_init => k_is)
    (case i_Machine_init => k_is)
    (case l_Machine_init => k_is)
    (case c_Machine_init => k_is)
    (case k_Machine_init => k_is)
    (case a_Machine_steps => k_is)
    (case g_Machine_steps => k_is)
    (case tk_Machine_steps => k_is)
    (case rc_Machine_steps => k_is)
    (case l_Machine_steps => k_is)
    (case c_Machine_steps => k_is)
    (case k_Machine_steps => k_is)
    (case a_Machine_state => k_is)
    (case g_Machine_state => k_is)
    (case tk_Machine_state => k_is)
    (case rc_Machine_state => k_is)
    (case l_Machine_state => k_is)
    (case c_Machine_state => k_is)
    (case k_Machine_state => k_is)
    (case a_Scheme_handler => k_is)
    (case g_Scheme_handler => k_is)
    (case tk_Scheme_handler => k_is)
    (case rc_Scheme_handler => k_is)
    (case l_Scheme_handler => k_is)
    (case c_Scheme_handler => k_is)
    (case k_Scheme_handler => k_is)
    (case a_turn => k_is)
    (case l_turn => k_is)
    (case c_turn => k_is)
    (case k_turn => k_is)
    (case a_place_after => k_is)
    (case l_place_after => k_is)
    (case c_place_after => k_is)
    (case k_place_after => k_is)
    (case a_hand_after => k_is)
    (case l_hand_after => k_is)
    (case c_hand_after => k_is)
    (case k_hand_after => k_is)
    (case a_replaced => k_is)
    (case l_replaced => k_is)
    (case c_replaced => k_is)
    (case k_replaced => k_is)
    (case a_cells_after => k_is)
    (case l_cells_after => k_is)
    (case c_cells_after => k_is)
    (case k_cells_after => k_is)
    (case a_instructed => k_is)
    (case l_instructed => k_is)
    (case c_instructed => k_is)
    (case k_instructed => k_is)
    (case a_before_instruction => k_is)
    (case l_before_instruction => k_is)
    (case c_before_instruction => k_is)
    (case k_before_instruction => k_is)
    (case a_stepped => k_is)
    (case l_stepped => k_is)
    (case c_stepped => k_is)
    (case k_stepped => k_is)
    (case a_Machine_step => k_is)
    (case i_Machine_step => k_is)
    (case l_Machine_step => k_is)
    (case c_Machine_step => k_is)
    (case k_Machine_step => k_is)
    (case a_upcoming => k_is)
    (case l_upcoming => k_is)
    (case c_upcoming => k_is)
    (case k_upcoming => k_is)
    (case a_Machine_next => k_is)
    (case i_Machine_next => k_is)
    (case l_Machine_next => k_is)
    (case c_Machine_next => k_is)
    (case k_Machine_next => k_is)
    (case a_machine_at => k_is)
    (case l_machine_at => k_is)
    (case c_machine_at => k_is)
    (case k_machine_at => k_is)
    (case a_Machine_copy => k_is)
    (case i_Machine_copy => k_is)
    (case l_Machine_copy => k_is)
    (case c_Machine_copy => k_is)
    (case k_Machine_copy => k_is)
    (case a_Scheme_eq => k_is)
    (case i_Scheme_eq => k_is)
    (case l_Scheme_eq => k_is)
    (case c_Scheme_eq => k_is)
    (case k_Scheme_eq => k_is)
    (case a_Machine_eq => k_is)
    (case i_Machine_eq => k_is)
    (case l_Machine_eq => k_is)
    (case c_Machine_eq => k_is)
    (case k_Machine_eq => k_is)
    (case a_check_worlds => k_is)
    (case l_check_worlds => k_is)
    (case c_check_worlds => k_is)
    (case k_check_worlds => k_is)
    (case a_check_run => k_is)
    (case l_check_run => k_is)
    (case c_check_run => k_is)
    (case k_check_run => k_is)
    (case a_shown_by => k_is)
    (case l_shown_by => k_is)
    (case c_shown_by => k_is)
    (case k_shown_by => k_is)
    (case a_shown => k_is)
    (case l_shown => k_is)
    (case c_shown => k_is)
    (case k_shown => k_is)
    (case a__law_world => k_is)
    (case l__law_world => k_is)
    (case c__law_world => k_is)
    (case k__law_world => k_is)
    (case a__law_start => k_is)
    (case l__law_start => k_is)
    (case c__law_start => k_is)
    (case k__law_start => k_is)
    (case a__law_state => k_is)
    (case l__law_state => k_is)
    (case c__law_state => k_is)
    (case k__law_state => k_is)
    (case a__law_meet => k_is)
    (case l__law_meet => k_is)
    (case c__law_meet => k_is)
    (case k__law_meet => k_is)
    (case a__law_brought => k_is)
    (case l__law_brought => k_is)
    (case c__law_brought => k_is)
    (case k__law_brought => k_is)
    (case a__law_step => k_is)
    (case l__law_step => k_is)
    (case c__law_step => k_is)
    (case k__law_step => k_is)
    (case a__law_core => k_is)
    (case l__law_core => k_is)
    (case c__law_core => k_is)
    (case k__law_core => k_is)
    (case a__law_next_one => k_is)
    (case l__law_next_one => k_is)
    (case c__law_next_one => k_is)
    (case k__law_next_one => k_is)
    (case a__law_run_right => k_is)
    (case l__law_run_right => k_is)
    (case c__law_run_right => k_is)
    (case k__law_run_right => k_is)
    (case a_law => k_is)
    (case l_law => k_is)
    (case c_law => k_is)
    (case k_law => k_is)
    (case pg0 => k_is)
    (case hd0 => k_is)
    (case po0 => k_is)
    (case sa0 => k_is)
    (case mk0 => k_is)
    (case kc0 => k_is)
    (case ha0 => k_is)
    (case hn0 => k_is)
    (case ht0 => k_is)
    (case hm0 => k_is)
    (case pg1 => k_is)
    (case hd1 => k_is)
    (case po1 => k_is)
    (case sa1 => k_is)
    (case mk1 => k_is)
    (case kc1 => k_is)
    (case ha1 => k_is)
    (case hn1 => k_is)
    (case ht1 => k_is)
    (case hm1 => k_is)
    (case na0_threads => k_is)
    (case na0_handler => k_is)
    (case na0_kinds => k_is)
    (case na1_scheme => k_is)
    (case na1_state => k_is)
    (case na1_steps => k_is)
    (case zn_all => k_is)
    (case zn_bool => k_is)
    (case zn_enumerate => k_is)
    (case zn_int => k_is)
    (case zn_isinstance => k_is)
    (case zn_len => k_is)
    (case zn_list => k_is)
    (case zn_max => k_is)
    (case zn_min => k_is)
    (case zn_range => k_is)
    (case zn_str => k_is)
    (case zn_tuple => k_is)
    (case zn_zip => k_is)
    (case a_ALL_KINDS => k_is)
    (case l_ALL_KINDS => k_is)
    (case a_QUIET => k_is)
    (case l_QUIET => k_is)
    (case a_MOST_WORDS => k_is)
    (case a_LONGEST_RUN => k_is)
    (case a_GREATEST => k_is)
    (case l_GREATEST => k_is)
    (case kl_GREATEST => (repeat' (first | exact trivial | refine ⟨⟨_, _, rfl, rfl⟩, ?_⟩)))
    (case lo_GREATEST => decide)
    (case e0_GREATEST => k_is)
    (case e1_GREATEST => k_is)
    (case e2_GREATEST => k_is)
    (case e3_GREATEST => k_is)
    (case e4_GREATEST => k_is)
    (case e5_GREATEST => k_is)
    (case e6_GREATEST => k_is)
    (case e7_GREATEST => k_is)
    (case e8_GREATEST => k_is)
    (case e9_GREATEST => k_is)
    (case e10_GREATEST => k_is)
    (case e11_GREATEST => k_is)
    (case e12_GREATEST => k_is)
