import PyProof.Rows.All
import HandS.ForMost
import HandS.Exc
import HandS.TryOnly
import HandS.ExcOwn
import HandS.ExcIs
import HandS.WordsExc
import HandS.IsInst
import HandS.Wide
import HandS.TupMul
import HandS.Zip
import KE.GoesZip
import KE.GoesMore
import PySem.Challenge.RW_wholecut_k03_points
import Wide.All
import OpenK.AllK
import Wide.FinOn
set_option Elab.async false
set_option linter.all false
set_option maxRecDepth 100000
/-! Values by their data: what stands at a value in an abstract heap; states by the data of their slots. -/
namespace Fn
open PySem PySem.Spec L2

abbrev D := PyData
/-- a list that is only read (the script, a module's own) -/
abbrev D.ro (ds : List D) : D := .dict [(.none, .list ds)]
/-- an instance of the k-th class -/
abbrev D.ob (k : Nat) (gs : List (D × D)) : D := .dict ((.bool true, .int k) :: gs)

section rep
variable (K : PySem.W.Frag) (cls : Nat → Addr)
mutual
inductive Rep (H : Hp) : V → D → Prop
  | non : Rep H .non .none
  | bl (b : Bool) : Rep H (.bl b) (.bool b)
  | int (i : Int) : Rep H (.int i) (.int i)
  | str (x : Str) : Rep H (.str x) (.str x)
  | ls {a : Addr} {xs : List V} {ds : List D} : H a = some (.lst xs) → RepL H xs ds → Rep H (.ref a) (.list ds)
  | ro {a : Addr} {xs : List V} {ds : List D} : SqL K H a xs → RepL H xs ds → Rep H (.ref a) (D.ro ds)
  | tp {a : Addr} {xs : List V} {ds : List D} : SqT K H a xs → RepL H xs ds → Rep H (.ref a) (.tuple ds)
  | ob {a dx : Addr} {k : Nat} {fs : List (Str × V)} {gs : List (D × D)} : H a = some (.ins (cls k) dx fs) → RepF H fs gs → Rep H (.ref a) (D.ob k gs)
inductive RepL (H : Hp) : List V → List D → Prop
  | nil : RepL H [] []
  | cons {v : V} {vs : List V} {d : D} {ds : List D} : Rep H v d → RepL H vs ds → RepL H (v :: vs) (d :: ds)
inductive RepF (H : Hp) : List (Str × V) → List (D × D) → Prop
  | nil : RepF H [] []
  | cons {n : Str} {v : V} {vs : List (Str × V)} {d : D} {ds : List (D × D)} : Rep H v d → RepF H vs ds → RepF H ((n, v) :: vs) ((.str n, d) :: ds)
end
end rep

theorem Same.tup {K : PySem.W.Frag} {H H' : Hp} {a : Addr} {xs : List V} (e : Same H H') (h : SqT K H a xs) : SqT K H' a xs := by
  rcases h with (h | ⟨o, h⟩) | h
  · exact .inl (.inl (e _ _ h))
  · exact .inl (.inr ⟨o, e _ _ h⟩)
  · exact .inr h

section
variable {K : PySem.W.Frag} {cls : Nat → Addr} {F F' : Hp}
mutual
theorem Rep.mono (e : Same F F') : ∀ {v : V} {d : D}, Rep K cls F v d → Rep K cls F' v d
  | _, _, .non => .non
  | _, _, .bl b => .bl b
  | _, _, .int i => .int i
  | _, _, .str x => .str x
  | _, _, .ls h r => .ls (e _ _ h) (RepL.mono e r)
  | _, _, .ro h r => .ro (e.seq h) (RepL.mono e r)
  | _, _, .tp h r => .tp (Same.tup e h) (RepL.mono e r)
  | _, _, .ob h r => .ob (e _ _ h) (RepF.mono e r)
theorem RepL.mono (e : Same F F') : ∀ {vs : List V} {ds : List D}, RepL K cls F vs ds → RepL K cls F' vs ds
  | _, _, .nil => .nil
  | _, _, .cons h r => .cons (Rep.mono e h) (RepL.mono e r)
theorem RepF.mono (e : Same F F') : ∀ {vs : List (Str × V)} {ds : List (D × D)}, RepF K cls F vs ds → RepF K cls F' vs ds
  | _, _, .nil => .nil
  | _, _, .cons h r => .cons (Rep.mono e h) (RepF.mono e r)
end
end
section
variable {K : PySem.W.Frag} {cls : Nat → Addr} {F : Hp}
theorem RepL.length : ∀ {vs : List V} {ds : List D}, RepL K cls F vs ds → vs.length = ds.length
  | _, _, .nil => rfl
  | _, _, .cons _ t => by rw [List.length_cons, List.length_cons, RepL.length t]
theorem RepL.get : ∀ {vs : List V} {ds : List D} {i : Nat} {d : D}, RepL K cls F vs ds → ds[i]? = some d → ∃ v, vs[i]? = some v ∧ Rep K cls F v d
  | _, _, _, _, .nil, h => by simp at h
  | _, _, 0, _, .cons r _, h => by simp at h; subst h; exact ⟨_, rfl, r⟩
  | _, _, i + 1, _, .cons _ t, h => by
    obtain ⟨v, h1, h2⟩ := RepL.get (i := i) t (by simpa using h)
    exact ⟨v, by simpa using h1, h2⟩
theorem RepL.getV : ∀ {vs : List V} {ds : List D} {i : Nat} {v : V}, RepL K cls F vs ds → vs[i]? = some v → ∃ d, ds[i]? = some d ∧ Rep K cls F v d
  | _, _, _, _, .nil, h => by simp at h
  | _, _, 0, _, .cons r _, h => by simp at h; subst h; exact ⟨_, rfl, r⟩
  | _, _, i + 1, _, .cons _ t, h => by
    obtain ⟨v, h1, h2⟩ := RepL.getV (i := i) t (by simpa using h)
    exact ⟨v, by simpa using h1, h2⟩
theorem RepL.append : ∀ {xs ys : List V} {ds es : List D}, RepL K cls F xs ds → RepL K cls F ys es → RepL K cls F (xs ++ ys) (ds ++ es)
  | _, _, _, _, .nil, s => s
  | _, _, _, _, .cons r t, s => .cons r (RepL.append t s)
theorem RepL.take : ∀ (n : Nat) {xs : List V} {ds : List D}, RepL K cls F xs ds → RepL K cls F (xs.take n) (ds.take n)
  | 0, _, _, _ => by rw [List.take_zero, List.take_zero]; exact .nil
  | _ + 1, _, _, .nil => by rw [List.take_nil, List.take_nil]; exact .nil
  | n + 1, _, _, .cons r t => .cons r (RepL.take n t)
theorem RepL.drop : ∀ (n : Nat) {xs : List V} {ds : List D}, RepL K cls F xs ds → RepL K cls F (xs.drop n) (ds.drop n)
  | 0, _, _, r => r
  | _ + 1, _, _, .nil => by rw [List.drop_nil, List.drop_nil]; exact .nil
  | n + 1, _, _, .cons _ t => RepL.drop n t
theorem RepL.set (i : Nat) {v : V} {d : D} (r : Rep K cls F v d) : ∀ {xs : List V} {ds : List D}, RepL K cls F xs ds → RepL K cls F (xs.set i v) (ds.set i d)
  | _, _, .nil => .nil
  | _, _, .cons q t => by
    cases i with
    | zero => exact .cons r t
    | succ j => exact .cons q (RepL.set j r t)
theorem RepL.rep {xs : List V} {ds : List D} (h : RepL K cls F xs ds) : ∀ k : Nat, RepL K cls F (List.replicate k xs).flatten (List.replicate k ds).flatten
  | 0 => .nil
  | k + 1 => by
    rw [List.replicate_succ, List.replicate_succ, List.flatten_cons, List.flatten_cons]
    exact RepL.append h (RepL.rep h k)
theorem RepL.reverse : ∀ {xs : List V} {ds : List D}, RepL K cls F xs ds → RepL K cls F xs.reverse ds.reverse
  | _, _, .nil => .nil
  | _, _, .cons r t => by
    rw [List.reverse_cons, List.reverse_cons]
    exact RepL.append (RepL.reverse t) (.cons r .nil)
theorem RepL.ints : ∀ (ns : List Int), RepL K cls F (ns.map V.int) (ns.map PyData.int)
  | [] => .nil
  | n :: ns => .cons (.int n) (RepL.ints ns)
theorem RepL.of_ints : ∀ {vs : List V} (ns : List Int), RepL K cls F vs (ns.map PyData.int) → vs = ns.map V.int
  | _, [], h => by cases h; rfl
  | _, n :: ns, h => by
    cases h with
    | cons r t =>
      cases r
      rw [RepL.of_ints ns t]
      rfl
theorem RepL.of_bls : ∀ {vs : List V} (ns : List Bool), RepL K cls F vs (ns.map PyData.bool) → vs = ns.map V.bl
  | _, [], h => by cases h; rfl
  | _, n :: ns, h => by
    cases h with
    | cons r t =>
      cases r
      rw [RepL.of_bls ns t]
      rfl
end
/-- the field n of an instance's data -/
def fieldD (n : Str) : List (D × D) → Option D
  | [] => none
  | (.str m, d) :: r => if n == m then some d else fieldD n r
  | _ :: r => fieldD n r
section
variable {K : PySem.W.Frag} {cls : Nat → Addr} {F : Hp}
theorem RepF.lookup {n : Str} : ∀ {fs : List (Str × V)} {gs : List (D × D)} {d : D}, RepF K cls F fs gs → fieldD n gs = some d → ∃ v, fs.lookup n = some v ∧ Rep K cls F v d
  | _, _, _, .nil, h => by unfold fieldD at h; cases h
  | _, _, d, .cons (n := m) (v := v) (d := d') r t, h => by
    unfold fieldD at h
    rw [List.lookup_cons]
    cases e : n == m with
    | true =>
      rw [e, if_pos rfl] at h
      cases h
      exact ⟨v, rfl, r⟩
    | false =>
      rw [e, if_neg Bool.false_ne_true] at h
      exact RepF.lookup t h
end

/-! no instance, no read-only list within -/
mutual
def plainD : D → Bool
  | .none | .bool _ | .int _ | .str _ => true
  | .list xs | .tuple xs => plainAll xs
  | .dict _ => false
def plainAll : List D → Bool
  | [] => true
  | x :: xs => plainD x && plainAll xs
end
section
variable {K : PySem.W.Frag} {cls : Nat → Addr} {F : Hp}
mutual
theorem Rep.dp : ∀ {v : V} {d : D}, Rep K cls F v d → plainD d = true → Dp K F v d
  | _, _, .non, _ => .non
  | _, _, .bl b, _ => .bl b
  | _, _, .int i, _ => .int i
  | _, _, .str x, _ => .str x
  | _, _, .ls h r, p => .lst (SqL.of h) (RepL.dp r p)
  | _, _, .tp h r, p => .tup h (RepL.dp r p)
  | _, _, .ro _ _, p => by unfold plainD at p; cases p
  | _, _, .ob _ _, p => by unfold plainD at p; cases p
theorem RepL.dp : ∀ {vs : List V} {ds : List D}, RepL K cls F vs ds → plainAll ds = true → DpAll K F vs ds
  | _, _, .nil, _ => .nil
  | _, _, .cons r t, p => by
    unfold plainAll at p
    rw [Bool.and_eq_true] at p
    exact .cons (Rep.dp r p.1) (RepL.dp t p.2)
end
end

/-! ### heaps -/
/-- F (what never changes) and H (all that is tracked) have grown -/
structure Ext (F H F' H' : Hp) : Prop where
  f : Same F F'
  h : Same H H'
  s : Same F' H'
  n : ∀ a o, F' a = some o → F a = some o ∨ H a = none
theorem Ext.refl {F H : Hp} (s : Same F H) : Ext F H F H := ⟨Same.refl _, Same.refl _, s, fun _ _ e => .inl e⟩
theorem Ext.trans {F H F1 H1 F2 H2 : Hp} (a : Ext F H F1 H1) (b : Ext F1 H1 F2 H2) : Ext F H F2 H2 :=
  ⟨a.f.trans b.f, a.h.trans b.h, b.s, fun x o e => (b.n x o e).elim (fun q => a.n x o q) fun q => .inr (a.h.free q)⟩
theorem same_upd {H : Hp} {p : Addr} {o : HO} (h : H p = none) : Same H (upd H p o) := fun b x e => by
  rw [upd_ne (ne_of_none e h)]
  exact e
theorem Same.free2 {F H : Hp} (s : Same F H) {p : Addr} (h : H p = none) : F p = none := s.free h
theorem upd_some {H : Hp} {p a : Addr} {o u : HO} (h : upd H p o a = some u) : (a = p ∧ u = o) ∨ (a ≠ p ∧ H a = some u) := by
  by_cases e : a = p
  · subst e
    rw [upd_same] at h
    exact .inl ⟨rfl, (Option.some.inj h).symm⟩
  · rw [upd_ne e] at h
    exact .inr ⟨e, h⟩
/-- a new object for good -/
theorem Ext.new {F H : Hp} {p : Addr} {o : HO} (s : Same F H) (h : H p = none) : Ext F H (upd F p o) (upd H p o) :=
  ⟨same_upd (s.free h), same_upd h, fun b x e => by
    rcases upd_some e with ⟨rfl, rfl⟩ | ⟨n, e⟩
    · exact upd_same
    · rw [upd_ne n]; exact s _ _ e, fun a x e => by
    rcases upd_some e with ⟨rfl, rfl⟩ | ⟨n, e⟩
    · exact .inr h
    · exact .inl e⟩
/-- a new object that may change -/
theorem Ext.newO {F H : Hp} {p : Addr} {o : HO} (s : Same F H) (h : H p = none) : Ext F H F (upd H p o) :=
  ⟨Same.refl _, same_upd h, s.trans (same_upd h), fun _ _ e => .inl e⟩
/-- what stood in H alone is made to stay -/
theorem Ext.keep {F H F' H' : Hp} {p : Addr} {o : HO} (e : Ext F H F' H') (h : H p = none) (h' : H' p = some o) : Ext F H (upd F' p o) H' := by
  refine ⟨fun b x q => ?_, e.h, fun b x q => ?_, fun a x q => ?_⟩
  · by_cases z : b = p
    · subst z
      have := e.h
      have q' := e.s _ _ (e.f _ _ q)
      rw [h'] at q'
      cases q'
      exact upd_same
    · rw [upd_ne z]; exact e.f _ _ q
  · rcases upd_some q with ⟨rfl, rfl⟩ | ⟨n, q⟩
    · exact h'
    · exact e.s _ _ q
  · rcases upd_some q with ⟨rfl, rfl⟩ | ⟨n, q⟩
    · exact .inr h
    · exact e.n _ _ q

/-! ### states -/
abbrev Rho := List (Option D)
section
variable (K : PySem.W.Frag) (cls : Nat → Addr)
/-- slot i owns its list: it stands in H alone -/
def Ow (H0 : Hp) (σ : St) (H F : Hp) (i : Nat) (d : D) : Prop :=
  ∃ a xs ds, d = .list ds ∧ σ[i]? = some (some (V.ref a)) ∧ H a = some (.lst xs) ∧ RepL K cls F xs ds ∧ F a = none ∧ H0 a = none
structure Sim (B : Hp × Hp) (own : List Nat) (σ : St) (H F : Hp) (ρ : Rho) : Prop where
  b : Ext B.2 B.1 F H
  len : σ.length = ρ.length
  fro : ∀ i d, i ∉ own → ρ[i]? = some (some d) → ∃ v, σ[i]? = some (some v) ∧ Rep K cls F v d
  ow : ∀ i d, i ∈ own → ρ[i]? = some (some d) → Ow K cls B.1 σ H F i d
  sep : ∀ i j d e a, i ∈ own → j ∈ own → i ≠ j → ρ[i]? = some (some d) → ρ[j]? = some (some e) → σ[i]? = some (some (V.ref a)) → σ[j]? = some (some (V.ref a)) → False
end
section
variable {K : PySem.W.Frag} {cls : Nat → Addr} {B : Hp × Hp} {own : List Nat} {σ : St} {H F H' F' : Hp} {ρ : Rho}
theorem Sim.s (S : Sim K cls B own σ H F ρ) : Same F H := S.b.s
theorem Sim.ext (S : Sim K cls B own σ H F ρ) (e : Ext F H F' H') : Sim K cls B own σ H' F' ρ where
  b := S.b.trans e
  len := S.len
  fro := fun i d hi h => by
    obtain ⟨v, h1, h2⟩ := S.fro i d hi h
    exact ⟨v, h1, h2.mono e.f⟩
  ow := fun i d hi h => by
    obtain ⟨a, xs, ds, h1, h2, h3, h4, h5, h6⟩ := S.ow i d hi h
    refine ⟨a, xs, ds, h1, h2, e.h _ _ h3, h4.mono e.f, ?_, h6⟩
    cases q : F' a with
    | none => rfl
    | some o =>
      rcases e.n a o q with z | z
      · rw [h5] at z; cases z
      · rw [h3] at z; cases z
  sep := S.sep
theorem get_set_ne {α : Type} {l : List α} {i j : Nat} {x : α} (h : i ≠ j) : (l.set i x)[j]? = l[j]? := List.getElem?_set_ne h
theorem get_set {α : Type} {l : List α} {i : Nat} {x y : α} (h : (l.set i x)[i]? = some y) : y = x ∧ i < l.length := by
  by_cases hl : i < l.length
  · rw [List.getElem?_set_self hl] at h
    exact ⟨(Option.some.inj h).symm, hl⟩
  · rw [List.getElem?_eq_none (by rw [List.length_set]; omega)] at h
    cases h
theorem Sim.set (S : Sim K cls B own σ H F ρ) (i : Nat) {v : V} {d : D} (r : Rep K cls F v d) : Sim K cls B (own.filter fun j => j != i) (σ.set i (some v)) H F (ρ.set i (some d)) where
  b := S.b
  len := by rw [List.length_set, List.length_set]; exact S.len
  fro := fun j e hj h => by
    by_cases q : i = j
    · subst q
      obtain ⟨h1, h2⟩ := get_set h
      cases h1
      exact ⟨v, by rw [List.getElem?_set_self (by rw [S.len]; exact h2)], r⟩
    · rw [get_set_ne q] at h ⊢
      exact S.fro j e (fun z => hj (List.mem_filter.mpr ⟨z, by simpa using fun z => q z.symm⟩)) h
  ow := fun j e hj h => by
    obtain ⟨h1, h2⟩ := List.mem_filter.mp hj
    have q : i ≠ j := fun z => by subst z; simp at h2
    rw [get_set_ne q] at h
    obtain ⟨a, xs, ds, k1, k2, k3⟩ := S.ow j e h1 h
    exact ⟨a, xs, ds, k1, by rw [get_set_ne q]; exact k2, k3⟩
  sep := fun j k e f a hj hk hne h1 h2 h3 h4 => by
    obtain ⟨m1, n1⟩ := List.mem_filter.mp hj
    obtain ⟨m2, n2⟩ := List.mem_filter.mp hk
    have q1 : i ≠ j := fun z => by subst z; simp at n1
    have q2 : i ≠ k := fun z => by subst z; simp at n2
    rw [get_set_ne q1] at h1 h3
    rw [get_set_ne q2] at h2 h4
    exact S.sep j k e f a m1 m2 hne h1 h2 h3 h4
/-- slot i now owns a list that no other slot owns -/
theorem Sim.setO (S : Sim K cls B own σ H F ρ) (i : Nat) {a : Addr} {xs : List V} {ds : List D} (h : H a = some (.lst xs)) (r : RepL K cls F xs ds) (hf : F a = none) (h0 : B.1 a = none)
    (apart : ∀ j b d, j ∈ own → j ≠ i → ρ[j]? = some (some d) → σ[j]? = some (some (V.ref b)) → b ≠ a) : Sim K cls B (i :: own.filter fun j => j != i) (σ.set i (some (.ref a))) H F (ρ.set i (some (.list ds))) where
  b := S.b
  len := by rw [List.length_set, List.length_set]; exact S.len
  fro := fun j e hj q => by
    have n1 : i ≠ j := fun z => hj (by subst z; exact List.mem_cons_self)
    rw [get_set_ne n1] at q ⊢
    exact S.fro j e (fun z => hj (List.mem_cons_of_mem _ (List.mem_filter.mpr ⟨z, by simpa using fun z => n1 z.symm⟩))) q
  ow := fun j e hj q => by
    by_cases n1 : i = j
    · subst n1
      obtain ⟨h1, h2⟩ := get_set q
      cases h1
      exact ⟨a, xs, ds, rfl, by rw [List.getElem?_set_self (by rw [S.len]; exact h2)], h, r, hf, h0⟩
    · have hj' : j ∈ own := by
        rcases List.mem_cons.mp hj with z | z
        · exact absurd z.symm n1
        · exact (List.mem_filter.mp z).1
      rw [get_set_ne n1] at q
      obtain ⟨b, ys, es, k1, k2, k3⟩ := S.ow j e hj' q
      exact ⟨b, ys, es, k1, by rw [get_set_ne n1]; exact k2, k3⟩
  sep := fun j k e f c hj hk hne h1 h2 h3 h4 => by
    have mem : ∀ {j}, j ∈ i :: own.filter (fun j => j != i) → i ≠ j → j ∈ own := fun {j} hj n1 => by
      rcases List.mem_cons.mp hj with z | z
      · exact absurd z.symm n1
      · exact (List.mem_filter.mp z).1
    by_cases n1 : i = j
    · subst n1
      rw [get_set_ne hne] at h2 h4
      obtain ⟨z1, z2⟩ := get_set h3
      cases z1
      exact apart k _ _ (mem hk hne) (Ne.symm hne) h2 h4 rfl
    · by_cases n2 : i = k
      · subst n2
        rw [get_set_ne n1] at h1 h3
        obtain ⟨z1, z2⟩ := get_set h4
        cases z1
        exact apart j _ _ (mem hj n1) (Ne.symm n1) h1 h3 rfl
      · rw [get_set_ne n1] at h1 h3
        rw [get_set_ne n2] at h2 h4
        exact S.sep j k e f c (mem hj n1) (mem hk n2) hne h1 h2 h3 h4
/-- an owned list changes -/
theorem Sim.mut (S : Sim K cls B own σ H F ρ) {i : Nat} (hi : i ∈ own) {ds : List D} (h : ρ[i]? = some (some (.list ds))) :
    ∃ a xs, σ[i]? = some (some (V.ref a)) ∧ H a = some (.lst xs) ∧ RepL K cls F xs ds ∧ ∀ ys es, RepL K cls F ys es → Sim K cls B own σ (upd H a (.lst ys)) F (ρ.set i (some (.list es))) := by
  obtain ⟨a, xs, ds', e, k2, k3, k4, k5, k6⟩ := S.ow i _ hi h
  cases e
  refine ⟨a, xs, k2, k3, k4, fun ys es r => ?_⟩
  have iy : i < ρ.length := by
    by_cases q : i < ρ.length
    · exact q
    · rw [List.getElem?_eq_none (by omega)] at h; cases h
  have sFH : Same F (upd H a (.lst ys)) := fun b o q => by
    have : b ≠ a := fun z => by rw [z, k5] at q; cases q
    rw [upd_ne this]; exact S.s _ _ q
  refine ⟨⟨S.b.f, fun b o q => ?_, sFH, S.b.n⟩, by rw [List.length_set]; exact S.len, fun j e hj q => ?_, fun j e hj q => ?_, fun j k e f c hj hk hne h1 h2 h3 h4 => ?_⟩
  · have : b ≠ a := fun z => by rw [z, k6] at q; cases q
    rw [upd_ne this]; exact S.b.h _ _ q
  · have n1 : i ≠ j := fun z => hj (by subst z; exact hi)
    rw [get_set_ne n1] at q
    exact S.fro j e hj q
  · by_cases n1 : i = j
    · subst n1
      obtain ⟨z, _⟩ := get_set q
      cases z
      exact ⟨a, ys, es, rfl, k2, upd_same, r, k5, k6⟩
    · rw [get_set_ne n1] at q
      obtain ⟨b, zs, fs, m1, m2, m3, m4⟩ := S.ow j e hj q
      have : b ≠ a := fun z => by
        subst z
        exact S.sep i j _ _ b hi hj n1 h q k2 m2
      exact ⟨b, zs, fs, m1, m2, by rw [upd_ne this]; exact m3, m4⟩
  · have ex : ∀ {j e}, (ρ.set i (some (.list es)))[j]? = some (some e) → ∃ e', ρ[j]? = some (some e') := fun {j e} q => by
      by_cases n1 : i = j
      · subst n1; exact ⟨_, h⟩
      · rw [get_set_ne n1] at q; exact ⟨_, q⟩
    obtain ⟨e', q1⟩ := ex h1
    obtain ⟨f', q2⟩ := ex h2
    exact S.sep j k e' f' c hj hk hne q1 q2 h3 h4
/-- an owned list stays from here on as it is -/
theorem Sim.freeze (S : Sim K cls B own σ H F ρ) (i : Nat) : ∃ F', Same F F' ∧ Sim K cls B (own.filter fun j => j != i) σ H F' ρ := by
  by_cases hi : i ∈ own
  · cases q : ρ[i]? with
    | none =>
      refine ⟨F, Same.refl _, S.b, S.len, fun j d hj h => ?_, fun j d hj h => S.ow j d (List.mem_filter.mp hj).1 h, fun j k e f a hj hk hne h1 h2 h3 h4 => S.sep j k e f a (List.mem_filter.mp hj).1 (List.mem_filter.mp hk).1 hne h1 h2 h3 h4⟩
      by_cases e : i = j
      · subst e; rw [q] at h; cases h
      · exact S.fro j d (fun z => hj (List.mem_filter.mpr ⟨z, by simpa using fun z => e z.symm⟩)) h
    | some o =>
      cases o with
      | none =>
        refine ⟨F, Same.refl _, S.b, S.len, fun j d hj h => ?_, fun j d hj h => S.ow j d (List.mem_filter.mp hj).1 h, fun j k e f a hj hk hne h1 h2 h3 h4 => S.sep j k e f a (List.mem_filter.mp hj).1 (List.mem_filter.mp hk).1 hne h1 h2 h3 h4⟩
        by_cases e : i = j
        · subst e; rw [q] at h; cases h
        · exact S.fro j d (fun z => hj (List.mem_filter.mpr ⟨z, by simpa using fun z => e z.symm⟩)) h
      | some d =>
        obtain ⟨a, xs, ds, e, k2, k3, k4, k5, k6⟩ := S.ow i _ hi q
        cases e
        refine ⟨upd F a (.lst xs), same_upd k5, S.b.keep k6 k3, S.len, fun j d hj h => ?_, fun j d hj h => ?_, fun j k e f c hj hk hne h1 h2 h3 h4 => S.sep j k e f c (List.mem_filter.mp hj).1 (List.mem_filter.mp hk).1 hne h1 h2 h3 h4⟩
        · by_cases e : i = j
          · subst e
            rw [q] at h
            cases h
            exact ⟨_, k2, .ls upd_same (k4.mono (same_upd k5))⟩
          · obtain ⟨v, h1, h2⟩ := S.fro j d (fun z => hj (List.mem_filter.mpr ⟨z, by simpa using fun z => e z.symm⟩)) h
            exact ⟨v, h1, h2.mono (same_upd k5)⟩
        · obtain ⟨m, n⟩ := List.mem_filter.mp hj
          have ne : i ≠ j := fun z => by subst z; simp at n
          obtain ⟨b, zs, fs, m1, m2, m3, m4, m5, m6⟩ := S.ow j d m h
          have ab : b ≠ a := fun z => by
            subst z
            exact S.sep i j _ _ b hi m ne q h k2 m2
          exact ⟨b, zs, fs, m1, m2, m3, m4.mono (same_upd k5), by rw [upd_ne ab]; exact m5, m6⟩
  · refine ⟨F, Same.refl _, ?_⟩
    have e : own.filter (fun j => j != i) = own := List.filter_eq_self.mpr fun j hj => by
      have : j ≠ i := fun z => hi (z ▸ hj)
      simpa using this
    rw [e]
    exact S
/-- fewer owned slots -/
theorem Sim.freezeAll : ∀ (is : List Nat) {own : List Nat} {F : Hp}, Sim K cls B own σ H F ρ → ∃ F', Same F F' ∧ Sim K cls B (own.filter fun j => !is.contains j) σ H F' ρ
  | [], own, F, S => ⟨F, Same.refl _, by
      have e : own.filter (fun j => !([] : List Nat).contains j) = own := List.filter_eq_self.mpr fun j _ => rfl
      rw [e]; exact S⟩
  | i :: is, own, F, S => by
    obtain ⟨F1, s1, S1⟩ := S.freeze i
    obtain ⟨F2, s2, S2⟩ := Sim.freezeAll is S1
    refine ⟨F2, s1.trans s2, ?_⟩
    have e : (own.filter fun j => j != i).filter (fun j => !is.contains j) = own.filter fun j => !(i :: is).contains j := by
      rw [List.filter_filter]
      congr 1
      funext j
      rw [List.contains_cons]
      cases h : j == i <;> cases h2 : is.contains j <;> simp_all [bne]
    rw [← e]
    exact S2
/-- the same owned slots, otherwise written -/
theorem Sim.perm {own' : List Nat} (S : Sim K cls B own σ H F ρ) (h : ∀ i, i ∈ own ↔ i ∈ own') : Sim K cls B own' σ H F ρ :=
  ⟨S.b, S.len, fun i d hi => S.fro i d fun z => hi ((h i).mp z), fun i d hi => S.ow i d ((h i).mpr hi), fun i j d e a hi hj => S.sep i j d e a ((h i).mpr hi) ((h j).mpr hj)⟩
theorem Sim.shrink {own' : List Nat} (S : Sim K cls B own σ H F ρ) (h : ∀ i, i ∈ own' → i ∈ own) : ∃ F', Same F F' ∧ Sim K cls B own' σ H F' ρ := by
  obtain ⟨F', s, S'⟩ := S.freezeAll (own.filter fun i => !own'.contains i)
  refine ⟨F', s, S'.perm fun i => ⟨fun z => ?_, fun z => ?_⟩⟩
  · obtain ⟨a, b⟩ := List.mem_filter.mp z
    by_cases q : i ∈ own'
    · exact q
    · exfalso
      have : i ∈ own.filter fun i => !own'.contains i := List.mem_filter.mpr ⟨a, by simpa using q⟩
      rw [List.contains_iff_mem.mpr this] at b
      cases b
  · refine List.mem_filter.mpr ⟨h i z, ?_⟩
    cases q : (own.filter fun i => !own'.contains i).contains i with
    | false => rfl
    | true =>
      have := (List.mem_filter.mp (List.contains_iff_mem.mp q)).2
      rw [List.contains_iff_mem.mpr z] at this
      cases this
/-- forget what stands in slot i -/
theorem Sim.forget (S : Sim K cls B own σ H F ρ) (i : Nat) (u : Option V) : Sim K cls B own (σ.set i u) H F (ρ.set i none) := by
  have ne : ∀ {j e}, (ρ.set i none)[j]? = some (some e) → i ≠ j := fun {j e} q z => by
    subst z
    obtain ⟨z, _⟩ := get_set q
    cases z
  refine ⟨S.b, by rw [List.length_set, List.length_set]; exact S.len, fun j e hj q => ?_, fun j e hj q => ?_, fun j k e f c hj hk hne h1 h2 h3 h4 => ?_⟩
  · have n := ne q
    rw [get_set_ne n] at q ⊢
    exact S.fro j e hj q
  · have n := ne q
    rw [get_set_ne n] at q
    obtain ⟨a, xs, ds, m1, m2, m3⟩ := S.ow j e hj q
    exact ⟨a, xs, ds, m1, by rw [get_set_ne n]; exact m2, m3⟩
  · have n1 := ne h1
    have n2 := ne h2
    rw [get_set_ne n1] at h1 h3
    rw [get_set_ne n2] at h2 h4
    exact S.sep j k e f c hj hk hne h1 h2 h3 h4
end
end Fn

set_option Elab.async false
set_option linter.all false
set_option maxRecDepth 100000
/-! Expressions by the data that they give. -/
namespace Fn
open PySem PySem.Spec L2

/-- what comes of it: a value, an error of the n-th class, or nothing is said -/
inductive O (α : Type) where
  | ok (a : α) | ex (n : Nat) | bad
def O.bind {α β : Type} : O α → (α → O β) → O β
  | .ok a, f => f a
  | .ex n, _ => .ex n
  | .bad, _ => .bad
theorem O.bind_ok {α β : Type} (a : α) (f : α → O β) : O.bind (.ok a) f = f a := rfl
theorem O.bind_ex {α β : Type} (n : Nat) (f : α → O β) : O.bind (.ex n) f = .ex n := rfl
theorem O.bind_bad {α β : Type} (f : α → O β) : O.bind .bad f = .bad := rfl
def OPost {α : Type} (P : α → Prop) (E : Nat → Prop) : O α → Prop
  | .ok a => P a
  | .ex n => E n
  | .bad => False
theorem OPost.imp {α : Type} {P P' : α → Prop} {E E' : Nat → Prop} (h1 : ∀ a, P a → P' a) (h2 : ∀ n, E n → E' n) : ∀ {o : O α}, OPost P E o → OPost P' E' o
  | .ok a, h => h1 a h
  | .ex n, h => h2 n h
  | .bad, h => h
theorem OPost.bind {α β : Type} {P : β → Prop} {E : Nat → Prop} {f : α → O β} : ∀ {o : O α}, OPost P E (o.bind f) → OPost (fun a => OPost P E (f a)) E o
  | .ok _, h => h
  | .ex _, h => h
  | .bad, h => h

structure Ct where
  cls : Nat → Addr
  xc : Nat → Addr
  W : WX
  B : Hp × Hp

section
variable (K : PySem.W.Frag) (c : Ct)
/-- as Rep, or a list that stands in H alone, its items in F -/
def Rep1 (F H : Hp) (v : V) (d : D) : Prop := Rep K c.cls F v d ∨ ∃ a xs ds, v = .ref a ∧ d = .list ds ∧ H a = some (.lst xs) ∧ RepL K c.cls F xs ds
def RepB : Bool → Hp → Hp → V → D → Prop
  | true => fun F _ => Rep K c.cls F
  | false => Rep1 K c
def RepBL : Bool → Hp → Hp → List V → List D → Prop
  | true => fun F _ => RepL K c.cls F
  | false => fun F H => Paired (Rep1 K c F H)
def EP1 (b : Bool) (σ : St) (F H : Hp) (Q : VK) : O D → Prop := OPost (fun d => ∀ v H' F', Ext F H F' H' → RepB K c b F' H' v d → Q v H') fun n => ∀ H', Same H H' → c.W (.ref (c.xc n)) none σ H'
def TP1 (σ : St) (F H : Hp) (Q : Bool → Hp → Prop) : O Bool → Prop := OPost (fun k => ∀ H' F', Ext F H F' H' → Q k H') fun n => ∀ H', Same H H' → c.W (.ref (c.xc n)) none σ H'
def AP1 (b : Bool) (σ : St) (F H : Hp) (Q : List V → Hp → Prop) : O (List D) → Prop := OPost (fun ds => ∀ vs H' F', Ext F H F' H' → RepBL K c b F' H' vs ds → Q vs H') fun n => ∀ H', Same H H' → c.W (.ref (c.xc n)) none σ H'
def FE (own : List Nat) (b : Bool) (t : TE) (g : Rho → O D) : Prop := ∀ σ H F ρ Q, Sim K c.cls c.B own σ H F ρ → EP1 K c b σ F H Q (g ρ) → t σ H Q
def FT (own : List Nat) (t : TT) (g : Rho → O Bool) : Prop := ∀ σ H F ρ Q, Sim K c.cls c.B own σ H F ρ → TP1 c σ F H Q (g ρ) → t σ H Q
def FA (own : List Nat) (b : Bool) (t : TA) (g : Rho → O (List D)) : Prop := ∀ σ H F ρ Q, Sim K c.cls c.B own σ H F ρ → AP1 K c b σ F H Q (g ρ) → t σ H Q
/-- a new list that stands in H alone -/
def FO (own : List Nat) (t : TE) (g : Rho → O D) : Prop := ∀ σ H F ρ Q, Sim K c.cls c.B own σ H F ρ →
  OPost (fun d => ∃ ds, d = .list ds ∧ ∀ a xs H' F', Ext F H F' H' → H' a = some (.lst xs) → F' a = none → H a = none → RepL K c.cls F' xs ds → Q (.ref a) H') (fun n => ∀ H', Same H H' → c.W (.ref (c.xc n)) none σ H') (g ρ) → t σ H Q
end

section
variable {K : PySem.W.Frag} {c : Ct} {own : List Nat} {b : Bool} {F H F' H' : Hp} {σ : St} {ρ : Rho}
theorem Rep.one {v : V} {d : D} (r : Rep K c.cls F v d) : Rep1 K c F H v d := .inl r
theorem RepB.one {v : V} {d : D} (r : RepB K c b F H v d) : Rep1 K c F H v d := by
  cases b with
  | true => exact .inl r
  | false => exact r
theorem Rep1.ext {v : V} {d : D} (r : Rep1 K c F H v d) (e : Ext F H F' H') : Rep1 K c F' H' v d := by
  rcases r with r | ⟨a, xs, ds, h1, h2, h3, h4⟩
  · exact .inl (r.mono e.f)
  · exact .inr ⟨a, xs, ds, h1, h2, e.h _ _ h3, h4.mono e.f⟩
theorem RepB.ext {v : V} {d : D} (r : RepB K c b F H v d) (e : Ext F H F' H') : RepB K c b F' H' v d := by
  cases b with
  | true => exact Rep.mono e.f r
  | false => exact Rep1.ext r e
theorem Rep1.full {v : V} {d : D} (r : Rep1 K c F H v d) (s : Same F H) : Rep K c.cls H v d := by
  rcases r with r | ⟨a, xs, ds, rfl, rfl, h3, h4⟩
  · exact r.mono s
  · exact .ls h3 (h4.mono s)
theorem Rep1.lst {v : V} {ds : List D} (r : Rep1 K c F H v (.list ds)) (s : Same F H) : ∃ a xs, v = .ref a ∧ H a = some (.lst xs) ∧ RepL K c.cls F xs ds := by
  rcases r with r | ⟨a, xs, ds', rfl, e, h3, h4⟩
  · cases r with
    | ls h r => exact ⟨_, _, rfl, s _ _ h, r⟩
  · cases e
    exact ⟨a, xs, rfl, h3, h4⟩
theorem Rep1.tup {v : V} {ds : List D} (r : Rep1 K c F H v (.tuple ds)) (s : Same F H) : ∃ a xs, v = .ref a ∧ SqT K H a xs ∧ RepL K c.cls F xs ds ∧ Rep K c.cls F v (.tuple ds) := by
  rcases r with r | ⟨a, xs, ds', rfl, e, h3, h4⟩
  · cases r with
    | tp h r => exact ⟨_, _, rfl, Same.tup s h, r, .tp h r⟩
  · cases e
theorem Rep1.roL {v : V} {ds : List D} (r : Rep1 K c F H v (D.ro ds)) (s : Same F H) : ∃ a xs, v = .ref a ∧ SqL K H a xs ∧ RepL K c.cls F xs ds := by
  rcases r with r | ⟨a, xs, ds', rfl, e, h3, h4⟩
  · cases r with
    | ro h r => exact ⟨_, _, rfl, s.seq h, r⟩
  · cases e
theorem Rep1.obj {v : V} {k : Nat} {gs : List (D × D)} (r : Rep1 K c F H v (D.ob k gs)) (s : Same F H) : ∃ a dx fs, v = .ref a ∧ H a = some (.ins (c.cls k) dx fs) ∧ RepF K c.cls F fs gs := by
  rcases r with r | ⟨a, xs, ds', rfl, e, h3, h4⟩
  · cases r with
    | ob h r => exact ⟨_, _, _, rfl, s _ _ h, r⟩
  · cases e
theorem Rep1.int {v : V} {i : Int} (r : Rep1 K c F H v (.int i)) : v = .int i := by
  rcases r with r | ⟨a, xs, ds', rfl, e, h3, h4⟩
  · cases r; rfl
  · cases e
theorem Rep1.bl {v : V} {i : Bool} (r : Rep1 K c F H v (.bool i)) : v = .bl i := by
  rcases r with r | ⟨a, xs, ds', rfl, e, h3, h4⟩
  · cases r; rfl
  · cases e
theorem Rep1.str {v : V} {i : Str} (r : Rep1 K c F H v (.str i)) : v = .str i := by
  rcases r with r | ⟨a, xs, ds', rfl, e, h3, h4⟩
  · cases r; rfl
  · cases e
theorem Rep1.non {v : V} (r : Rep1 K c F H v .none) : v = .non := by
  rcases r with r | ⟨a, xs, ds', rfl, e, h3, h4⟩
  · cases r; rfl
  · cases e
theorem Rep1.len {v : V} {d : D} (r : Rep1 K c F H v d) : True := trivial

/-- behind a step that has grown the heaps the wish is the rest of the wish -/
theorem EP1.ext {Q : VK} {o : O D} (h : EP1 K c b σ F H Q o) (e : Ext F H F' H') : EP1 K c b σ F' H' Q o :=
  OPost.imp (fun _ q v H2 F2 e2 r => q v H2 F2 (e.trans e2) r) (fun _ q H2 s => q H2 (e.h.trans s)) h
theorem TP1.ext {Q : Bool → Hp → Prop} {o : O Bool} (h : TP1 c σ F H Q o) (e : Ext F H F' H') : TP1 c σ F' H' Q o :=
  OPost.imp (fun _ q H2 F2 e2 => q H2 F2 (e.trans e2)) (fun _ q H2 s => q H2 (e.h.trans s)) h
theorem AP1.ext {Q : List V → Hp → Prop} {o : O (List D)} (h : AP1 K c b σ F H Q o) (e : Ext F H F' H') : AP1 K c b σ F' H' Q o :=
  OPost.imp (fun _ q v H2 F2 e2 r => q v H2 F2 (e.trans e2) r) (fun _ q H2 s => q H2 (e.h.trans s)) h

theorem FE.weak {t : TE} {g : Rho → O D} (h : FE K c own true t g) : FE K c own false t g := fun σ H F ρ Q S q =>
  h σ H F ρ Q S (OPost.imp (fun _ q v H2 F2 e2 r => q v H2 F2 e2 (.inl r)) (fun _ q => q) q)
theorem FE.any {t : TE} {g : Rho → O D} (h : FE K c own true t g) : FE K c own b t g := by
  cases b with
  | true => exact h
  | false => exact h.weak
/-! ### names, constants -/
def gVar (i : Nat) : Rho → O D := fun ρ => match ρ[i]? with
  | some (some d) => .ok d
  | _ => .bad
theorem fe_var {i : Nat} (hi : own.contains i = false) : FE K c own b (tVar i) (gVar i) := FE.any fun σ H F ρ Q S q => by
  unfold gVar at q
  split at q
  · rename_i d e
    obtain ⟨v, h1, h2⟩ := S.fro i d (fun z => by rw [List.contains_iff_mem.mpr z] at hi; cases hi) e
    exact ⟨v, h1, q v H F (Ext.refl S.s) h2⟩
  · exact q.elim
theorem fe_varO {i : Nat} : FE K c own false (tVar i) (gVar i) := fun σ H F ρ Q S q => by
  unfold gVar at q
  split at q
  · rename_i d e
    by_cases hi : i ∈ own
    · obtain ⟨a, xs, ds, h0, h1, h2, h3, _, _⟩ := S.ow i d hi e
      exact ⟨_, h1, q _ H F (Ext.refl S.s) (.inr ⟨a, xs, ds, rfl, h0, h2, h3⟩)⟩
    · obtain ⟨v, h1, h2⟩ := S.fro i d hi e
      exact ⟨v, h1, q v H F (Ext.refl S.s) (.inl h2)⟩
  · exact q.elim
def gC (d : D) : Rho → O D := fun _ => .ok d
theorem fe_c {v : V} {d : D} (r : ∀ F, Rep K c.cls F v d) : FE K c own b (tC v) (gC d) := FE.any fun σ H F ρ Q S q => q v H F (Ext.refl S.s) (r F)
/-! ### two in a row, operators -/
def g2 (op : D → D → O D) (ga gb : Rho → O D) : Rho → O D := fun ρ => (ga ρ).bind fun d => (gb ρ).bind fun e => op d e
def g1 (op : D → O D) (ga : Rho → O D) : Rho → O D := fun ρ => (ga ρ).bind op
def OpF (K : PySem.W.Frag) (c : Ct) (b : Bool) (r : R2) (op : D → D → O D) : Prop := ∀ F H x y d e Q, Same F H → Rep1 K c F H x d → Rep1 K c F H y e →
  OPost (fun z => ∀ v H' F', Ext F H F' H' → RepB K c b F' H' v z → Q v H') (fun _ => False) (op d e) → r x y H Q
def UnF (K : PySem.W.Frag) (c : Ct) (b : Bool) (r : V → Hp → VK → Prop) (op : D → O D) : Prop := ∀ F H x d Q, Same F H → Rep1 K c F H x d →
  OPost (fun z => ∀ v H' F', Ext F H F' H' → RepB K c b F' H' v z → Q v H') (fun _ => False) (op d) → r x H Q
def noEx {α : Type} : O α → O α
  | .ex _ => .bad
  | o => o
theorem noEx_post {α : Type} {P : α → Prop} {E : Nat → Prop} {o : O α} (h : OPost P E (noEx o)) : OPost P (fun _ => False) o := by
  cases o with
  | ok a => exact h
  | ex n => exact h.elim
  | bad => exact h.elim
theorem fe_op {r : R2} {op : D → D → O D} {ta tb : TE} {ga gb : Rho → O D} (ho : OpF K c b r op) (ha : FE K c own false ta ga) (hb : FE K c own false tb gb) : FE K c own b (tOp r ta tb) (g2 (fun d e => noEx (op d e)) ga gb) := fun σ H F ρ Q S q => by
  refine ha σ H F ρ _ S (OPost.imp (fun d q v H1 F1 e1 r1 => ?_) (fun _ q => q) (OPost.bind q))
  refine hb σ H1 F1 ρ _ (S.ext e1) (OPost.imp (fun e q w H2 F2 e2 r2 => ?_) (fun _ q H2 s => q H2 (e1.h.trans s)) (OPost.bind q))
  refine ho F2 H2 v w d e Q e2.s (r1.ext e2) r2 (OPost.imp (fun z q u H3 F3 e3 r3 => q u H3 F3 ((e1.trans e2).trans e3) r3) (fun _ q => q) (noEx_post q))
theorem fe_un {r : V → Hp → VK → Prop} {op : D → O D} {ta : TE} {ga : Rho → O D} (ho : UnF K c b r op) (ha : FE K c own false ta ga) : FE K c own b (tUn r ta) (g1 (fun d => noEx (op d)) ga) := fun σ H F ρ Q S q => by
  refine ha σ H F ρ _ S (OPost.imp (fun d q v H1 F1 e1 r1 => ?_) (fun _ q => q) (OPost.bind q))
  exact ho F1 H1 v d Q e1.s r1 (OPost.imp (fun z q u H3 F3 e3 r3 => q u H3 F3 (e1.trans e3) r3) (fun _ q => q) (noEx_post q))
/-! ### arguments -/
def gNilA : Rho → O (List D) := fun _ => .ok []
def gConsA (g : Rho → O D) (gs : Rho → O (List D)) : Rho → O (List D) := fun ρ => (g ρ).bind fun d => (gs ρ).bind fun ds => .ok (d :: ds)
theorem RepBL.nil : RepBL K c b F H [] [] := by
  cases b with
  | true => exact .nil
  | false => exact .nil
theorem RepBL.cons {v : V} {vs : List V} {d : D} {ds : List D} (h : RepB K c b F H v d) (t : RepBL K c b F H vs ds) : RepBL K c b F H (v :: vs) (d :: ds) := by
  cases b with
  | true => exact RepL.cons h t
  | false => exact Paired.cons h t
theorem fa_nil : FA K c own b tNil gNilA := fun σ H F ρ Q S q => q [] H F (Ext.refl S.s) RepBL.nil
theorem fa_cons {t : TE} {ts : TA} {g : Rho → O D} {gs : Rho → O (List D)} (h : FE K c own b t g) (hs : FA K c own b ts gs) : FA K c own b (tCons t ts) (gConsA g gs) := fun σ H F ρ Q S q => by
  refine h σ H F ρ _ S (OPost.imp (fun d q v H1 F1 e1 r1 => ?_) (fun _ q => q) (OPost.bind q))
  refine hs σ H1 F1 ρ _ (S.ext e1) (OPost.imp (fun ds q vs H2 F2 e2 r2 => ?_) (fun _ q H2 s => q H2 (e1.h.trans s)) (OPost.bind q))
  exact q (v :: vs) H2 F2 (e1.trans e2) (RepBL.cons (r1.ext e2) r2)
theorem Paired.repL {vs : List V} {ds : List D} (h : RepL K c.cls F vs ds) : Paired (Rep1 K c F H) vs ds := by
  induction vs generalizing ds with
  | nil => cases h; exact .nil
  | cons v vs ih => cases h with
    | cons r t => exact .cons (.inl r) (ih t)
/-! ### built-in calls -/
def CallF (K : PySem.W.Frag) (c : Ct) (b : Bool) (r : List V → Hp → VK → Prop) (f : List D → O D) : Prop := ∀ F H xs ds Q, Same F H → Paired (Rep1 K c F H) xs ds →
  OPost (fun z => ∀ v H' F', Ext F H F' H' → RepB K c b F' H' v z → Q v H') (fun _ => False) (f ds) → r xs H Q
def gCall (f : List D → O D) (g : Rho → O (List D)) : Rho → O D := fun ρ => (g ρ).bind f
theorem fe_callB {r : List V → Hp → VK → Prop} {f : List D → O D} {t : TA} {g : Rho → O (List D)} (hf : CallF K c b r f) (h : FA K c own false t g) : FE K c own b (tCB r t) (gCall (fun ds => noEx (f ds)) g) := fun σ H F ρ Q S q => by
  refine h σ H F ρ _ S (OPost.imp (fun ds q vs H1 F1 e1 r1 => ?_) (fun _ q => q) (OPost.bind q))
  exact hf F1 H1 vs ds Q e1.s r1 (OPost.imp (fun z q u H3 F3 e3 r3 => q u H3 F3 (e1.trans e3) r3) (fun _ q => q) (noEx_post q))
/-! ### lists and tuples, written -/
def lim : Nat := 1000000
theorem lim_le : lim ≤ sizeLine := by rw [sizeLine_eq]; decide
theorem le_lim {n : Nat} (h : n ≤ lim) : n ≤ sizeLine := Nat.le_trans h lim_le
theorem lt_lim {n : Nat} (h : n < lim) : n < sizeLine := Nat.lt_of_lt_of_le h lim_le
def gTup (g : Rho → O (List D)) : Rho → O D := fun ρ => (g ρ).bind fun ds => if ds.length ≤ lim then .ok (.tuple ds) else .bad
def gLst (g : Rho → O (List D)) : Rho → O D := fun ρ => (g ρ).bind fun ds => if ds.length ≤ lim then .ok (.list ds) else .bad
theorem fe_tup {t : TA} {g : Rho → O (List D)} (h : FA K c own true t g) : FE K c own b (tTup t) (gTup g) := FE.any fun σ H F ρ Q S q => by
  refine h σ H F ρ _ S (OPost.imp (fun ds q vs H1 F1 e1 r1 => ?_) (fun _ q => q) (OPost.bind q))
  have rl : RepL K c.cls F1 vs ds := r1
  split at q
  · rename_i hl
    refine ⟨by rw [rl.length]; exact le_lim hl, fun p hp => ?_⟩
    exact q _ _ _ (e1.trans (Ext.new e1.s hp)) (.tp (SqT.of upd_same) (rl.mono (same_upd (e1.s.free hp))))
  · exact q.elim
theorem fo_lst {t : TA} {g : Rho → O (List D)} (h : FA K c own true t g) : FO K c own (tLst t) (gLst g) := fun σ H F ρ Q S q => by
  refine h σ H F ρ _ S (OPost.imp (fun ds q vs H1 F1 e1 r1 => ?_) (fun _ q => q) (OPost.bind q))
  have rl : RepL K c.cls F1 vs ds := r1
  split at q
  · rename_i hl
    obtain ⟨es, e, q⟩ := q
    cases e
    refine ⟨by rw [rl.length]; exact le_lim hl, fun p hp => ?_⟩
    exact q p vs _ F1 (e1.trans (Ext.newO e1.s hp)) upd_same (e1.s.free hp) (e1.h.free hp) rl
  · exact q.elim
/-- a new list is as good as one that stays -/
theorem FO.fe {t : TE} {g : Rho → O D} (h : FO K c own t g) (hl : ∀ ρ d, g ρ = .ok d → ∃ ds, d = .list ds) : FE K c own b t g := FE.any fun σ H F ρ Q S q => by
  refine h σ H F ρ Q S ?_
  cases hg : g ρ with
  | ok d =>
    rw [hg] at q
    obtain ⟨ds, rfl⟩ := hl ρ d hg
    refine ⟨ds, rfl, fun a xs H' F' e h1 h2 h3 r => ?_⟩
    exact q _ _ _ (e.keep h3 h1) (.ls upd_same (r.mono (same_upd h2)))
  | ex n => rw [hg] at q; exact q
  | bad => rw [hg] at q; exact q
theorem gLst_list {g : Rho → O (List D)} : ∀ ρ d, gLst g ρ = .ok d → ∃ ds, d = .list ds := fun ρ d h => by
  unfold gLst at h
  cases e : g ρ with
  | ok ds =>
    rw [e, O.bind_ok] at h
    split at h
    · cases h; exact ⟨ds, rfl⟩
    · cases h
  | ex n => rw [e] at h; cases h
  | bad => rw [e] at h; cases h
theorem fe_lst {t : TA} {g : Rho → O (List D)} (h : FA K c own true t g) : FE K c own b (tLst t) (gLst g) := (fo_lst h).fe gLst_list

/-! ### tests -/
def gBl (g : Rho → O D) : Rho → O Bool := fun ρ => (g ρ).bind fun d => match d with
  | .bool k => .ok k
  | _ => .bad
theorem ft_bl {t : TE} {g : Rho → O D} (h : FE K c own false t g) : FT K c own (tB t) (gBl g) := fun σ H F ρ Q S q => by
  refine h σ H F ρ _ S (OPost.imp (fun d q v H1 F1 e1 r1 => ?_) (fun _ q => q) (OPost.bind q))
  split at q
  · rename_i k
    have r1 : Rep1 K c F1 H1 v (.bool k) := r1
    exact ⟨k, r1.bl, q H1 F1 e1⟩
  · exact q.elim
theorem ft_test {t : TE} {g : Rho → O D} (h : FE K c own false t g) : FT K c own (tTest t) (gBl g) := ft_bl h
def truD : D → O Bool
  | .none => .ok false
  | .bool k => .ok k
  | .int i => .ok (i != 0)
  | .str x => if x.length ≤ lim then .ok ((x.length : Int) != 0) else .bad
  | .list ds => .ok (!ds.isEmpty)
  | .tuple ds => .ok (!ds.isEmpty)
  | .dict [(.none, .list ds)] => .ok (!ds.isEmpty)
  | .dict _ => .bad
def gTru (g : Rho → O D) : Rho → O Bool := fun ρ => (g ρ).bind truD
theorem isEmpty_repL {vs : List V} {ds : List D} (h : RepL K c.cls F vs ds) : vs.isEmpty = ds.isEmpty := by
  cases h <;> rfl
theorem ft_truth {t : TE} {g : Rho → O D} (h : FE K c own false t g) : FT K c own (fun σ H Q => t σ H fun x H' => ∃ k, TruV K x H' k ∧ Q k H') (gTru g) := fun σ H F ρ Q S q => by
  refine h σ H F ρ _ S (OPost.imp (fun d q v H1 F1 e1 r1 => ?_) (fun _ q => q) (OPost.bind q))
  have r1 : Rep1 K c F1 H1 v d := r1
  unfold truD at q
  split at q
  · rw [r1.non]; exact ⟨_, rfl, q H1 F1 e1⟩
  · rw [r1.bl]; exact ⟨_, rfl, q H1 F1 e1⟩
  · rw [r1.int]; exact ⟨_, rfl, q H1 F1 e1⟩
  · split at q
    · rename_i hl
      rw [r1.str]; exact ⟨_, ⟨le_lim hl, rfl⟩, q H1 F1 e1⟩
    · exact q.elim
  · obtain ⟨a, xs, rfl, h1, h2⟩ := r1.lst e1.s
    exact ⟨_, .inl ⟨xs, SqL.of h1, by rw [isEmpty_repL h2]⟩, q H1 F1 e1⟩
  · obtain ⟨a, xs, rfl, h1, h2, _⟩ := r1.tup e1.s
    exact ⟨_, .inr (.inl ⟨xs, h1, by rw [isEmpty_repL h2]⟩), q H1 F1 e1⟩
  · obtain ⟨a, xs, rfl, h1, h2⟩ := r1.roL e1.s
    exact ⟨_, .inl ⟨xs, h1, by rw [isEmpty_repL h2]⟩, q H1 F1 e1⟩
  · exact q.elim
def gNotT (g : Rho → O Bool) : Rho → O Bool := fun ρ => (g ρ).bind fun k => .ok (!k)
theorem ft_not {t : TT} {g : Rho → O Bool} (h : FT K c own t g) : FT K c own (tNot t) (gNotT g) := fun σ H F ρ Q S q =>
  h σ H F ρ _ S (OPost.imp (fun k q H1 F1 e1 => q H1 F1 e1) (fun _ q => q) (OPost.bind q))
def gAndT (g u : Rho → O Bool) : Rho → O Bool := fun ρ => (g ρ).bind fun k => if k = true then u ρ else .ok false
def gOrT (g u : Rho → O Bool) : Rho → O Bool := fun ρ => (g ρ).bind fun k => if k = true then .ok true else u ρ
theorem ft_and {t u : TT} {g g' : Rho → O Bool} (h : FT K c own t g) (h' : FT K c own u g') : FT K c own (tAnd t u) (gAndT g g') := fun σ H F ρ Q S q => by
  refine h σ H F ρ _ S (OPost.imp (fun k q H1 F1 e1 => ?_) (fun _ q => q) (OPost.bind q))
  cases k with
  | true =>
    rw [if_pos rfl] at q ⊢
    exact h' σ H1 F1 ρ Q (S.ext e1) (TP1.ext q e1)
  | false =>
    rw [if_neg Bool.false_ne_true] at q ⊢
    exact q H1 F1 e1
theorem ft_or {t u : TT} {g g' : Rho → O Bool} (h : FT K c own t g) (h' : FT K c own u g') : FT K c own (tOr t u) (gOrT g g') := fun σ H F ρ Q S q => by
  refine h σ H F ρ _ S (OPost.imp (fun k q H1 F1 e1 => ?_) (fun _ q => q) (OPost.bind q))
  cases k with
  | true =>
    rw [if_pos rfl] at q ⊢
    exact q H1 F1 e1
  | false =>
    rw [if_neg Bool.false_ne_true] at q ⊢
    exact h' σ H1 F1 ρ Q (S.ext e1) (TP1.ext q e1)
/-! ### and, or, not, if as values -/
def gAndV (g u : Rho → O D) : Rho → O D := fun ρ => (gBl g ρ).bind fun k => if k = true then u ρ else .ok (.bool false)
def gOrV (g u : Rho → O D) : Rho → O D := fun ρ => (gBl g ρ).bind fun k => if k = true then .ok (.bool true) else u ρ
def gNotV (g : Rho → O D) : Rho → O D := fun ρ => (gBl g ρ).bind fun k => .ok (.bool (!k))
theorem fe_and {t u : TE} {g g' : Rho → O D} (h : FE K c own false t g) (h' : FE K c own b u g') : FE K c own b (tAndV t u) (gAndV g g') := fun σ H F ρ Q S q => by
  refine h σ H F ρ _ S (OPost.imp (fun d q v H1 F1 e1 r1 => ?_) (fun _ q => q) (OPost.bind (OPost.bind q)))
  split at q
  · rename_i k
    have r1 : Rep1 K c F1 H1 v (.bool k) := r1
    refine ⟨k, r1.bl, ?_⟩
    cases k with
    | true => exact h' σ H1 F1 ρ Q (S.ext e1) (EP1.ext q e1)
    | false => exact q _ H1 F1 e1 (by cases b with | true => exact .bl _ | false => exact .inl (.bl _))
  · exact q.elim
theorem fe_or {t u : TE} {g g' : Rho → O D} (h : FE K c own false t g) (h' : FE K c own b u g') : FE K c own b (tOrV t u) (gOrV g g') := fun σ H F ρ Q S q => by
  refine h σ H F ρ _ S (OPost.imp (fun d q v H1 F1 e1 r1 => ?_) (fun _ q => q) (OPost.bind (OPost.bind q)))
  split at q
  · rename_i k
    have r1 : Rep1 K c F1 H1 v (.bool k) := r1
    refine ⟨k, r1.bl, ?_⟩
    cases k with
    | true => exact q _ H1 F1 e1 (by cases b with | true => exact .bl _ | false => exact .inl (.bl _))
    | false => exact h' σ H1 F1 ρ Q (S.ext e1) (EP1.ext q e1)
  · exact q.elim
theorem fe_not {t : TE} {g : Rho → O D} (h : FE K c own false t g) : FE K c own b (tNotV t) (gNotV g) := FE.any fun σ H F ρ Q S q => by
  refine h σ H F ρ _ S (OPost.imp (fun d q v H1 F1 e1 r1 => ?_) (fun _ q => q) (OPost.bind (OPost.bind q)))
  split at q
  · rename_i k
    have r1 : Rep1 K c F1 H1 v (.bool k) := r1
    exact ⟨k, r1.bl, q _ H1 F1 e1 (.bl _)⟩
  · exact q.elim
def gIf (g : Rho → O Bool) (u w : Rho → O D) : Rho → O D := fun ρ => (g ρ).bind fun k => if k = true then u ρ else w ρ
theorem fe_if {t : TT} {u w : TE} {g : Rho → O Bool} {g' g'' : Rho → O D} (h : FT K c own t g) (h' : FE K c own b u g') (h'' : FE K c own b w g'') : FE K c own b (tIf t u w) (gIf g g' g'') := fun σ H F ρ Q S q => by
  refine h σ H F ρ _ S (OPost.imp (fun k q H1 F1 e1 => ?_) (fun _ q => q) (OPost.bind q))
  cases k with
  | true =>
    rw [if_pos rfl] at q ⊢
    exact h' σ H1 F1 ρ Q (S.ext e1) (EP1.ext q e1)
  | false =>
    rw [if_neg Bool.false_ne_true] at q ⊢
    exact h'' σ H1 F1 ρ Q (S.ext e1) (EP1.ext q e1)
end
end Fn

set_option Elab.async false
set_option linter.all false
set_option maxRecDepth 100000
/-! A tuple times one is the tuple itself. -/
namespace Fn
open PySem PySem.Spec PyProof.Rows L2
theorem tuple_mul_one (l : Addr) (items : Array Value) (n : Nat) (dd : Option Addr) (sl : Array (Option Value)) (u : Tok) :
    Meets (Builtin.«tuple.__mul__» ⟨[.ref l, .int 1 u], []⟩) (fun _ R s => s.heap.get? l = some { cls := .type "tuple", dict := dd, data := .seq items n, slots := sl } ∧ R (.ok (.ret (Value.ref l))) s) :=
  .of_wp fun prog w A R s h => by
    obtain ⟨hp, g, d, t, os⟩ := s
    obtain ⟨hl, q⟩ := h
    have f1 := AutoSeq1.idx_int
    wp_walk using wpAny_loadPart' hl
    exact ⟨_, rfl, q⟩
def rRepT1 (K : PySem.W.Frag) : R2 := fun x y H Q => ∃ l xs, x = .ref l ∧ y = .int 1 ∧ SqT K H l xs ∧ Q (.ref l) H
theorem op_repT1 {X : Cx} : OpR X (binaryOp .Mult) (rRepT1 X.K) := by
  intro pins s σ H x y v u Q I rx ry h
  obtain ⟨l, xs, rfl, rfl, hT, q⟩ := h
  cases rx
  obtain ⟨t, rfl⟩ := ry
  obtain ⟨its, r, ⟨⟨kl, dd, data, sl⟩, ho, hc, n, hd⟩, hs⟩ := I.tuple hT
  simp only at hc hd
  subst hc
  subst hd
  have m2 := int_rmul_tuple 1 t l its.toArray n dd sl
  refine wpAny_binaryOp_repeat_ref (T := "tuple") (U := "int") (by decide) ⟨_, ho, rfl⟩ (fun s' => typeIs_int s' 1 t) noFill_tuple_mul F.fills_int_mul F.slot_int_rmul repeat_tuple F.slot_int_index.lookup ?_
  refine call_meets F.slot_int_rmul (typeIs_int s 1 t) F.entry_int_rmul (F.args_int_rmul_2 _ _) m2 ⟨ho, rfl, ⟨_, ho, rfl⟩, ?_⟩
  exact call_meets F.slot_tuple_mul ⟨_, ho, rfl⟩ F.entry_tuple_mul (F.args_tuple_mul_2 _ _) (tuple_mul_one l its.toArray n dd sl t) ⟨ho, .ref l, H, I, rfl, q⟩
end Fn

set_option Elab.async false
set_option linter.all false
set_option maxRecDepth 100000
/-! Operators, subscripts, built-in calls by data. -/
namespace Fn
open PySem PySem.Spec L2

section
variable {K : PySem.W.Frag} {c : Ct} {own : List Nat} {b : Bool} {F H F' H' : Hp} {σ : St} {ρ : Rho}
/-- an operator whose answer is a new list -/
def OpO (K : PySem.W.Frag) (c : Ct) (r : R2) (op : D → D → O (List D)) : Prop := ∀ F H x y d e Q, Same F H → Rep1 K c F H x d → Rep1 K c F H y e →
  OPost (fun ds => ∀ a xs H' F', Ext F H F' H' → H' a = some (.lst xs) → F' a = none → H a = none → RepL K c.cls F' xs ds → Q (.ref a) H') (fun _ => False) (op d e) → r x y H Q
def g2L (op : D → D → O (List D)) (ga gb : Rho → O D) : Rho → O D := fun ρ => (ga ρ).bind fun d => (gb ρ).bind fun e => (op d e).bind fun ds => .ok (.list ds)
theorem OPost.noex {α : Type} {P : α → Prop} {E : Nat → Prop} {o : O α} (h : OPost P E o) (hn : ∀ n, o ≠ .ex n) : OPost P (fun _ => False) o := by
  cases o with
  | ok a => exact h
  | ex n => exact absurd rfl (hn n)
  | bad => exact h.elim
theorem fo_op {r : R2} {op : D → D → O (List D)} {ta tb : TE} {ga gb : Rho → O D} (ho : OpO K c r op) (hn : ∀ d e n, op d e ≠ .ex n) (ha : FE K c own false ta ga) (hb : FE K c own false tb gb) : FO K c own (tOp r ta tb) (g2L op ga gb) := fun σ H F ρ Q S q => by
  refine ha σ H F ρ _ S (OPost.imp (fun d q v H1 F1 e1 r1 => ?_) (fun _ q => q) (OPost.bind q))
  refine hb σ H1 F1 ρ _ (S.ext e1) (OPost.imp (fun e q w H2 F2 e2 r2 => ?_) (fun _ q H2 s => q H2 (e1.h.trans s)) (OPost.bind q))
  refine ho F2 H2 v w d e Q e2.s (r1.ext e2) r2 (OPost.imp (fun ds q a xs H3 F3 e3 h1 h2 h3 r3 => ?_) (fun _ q => q) (OPost.noex (OPost.bind q) (hn d e)))
  obtain ⟨es, ee, q⟩ := q
  cases ee
  exact q a xs H3 F3 ((e1.trans e2).trans e3) h1 h2 ((e1.trans e2).h.free h3) r3

/-! ### whole numbers -/
def mulOk (i j : Int) : Bool := decide (i.natAbs.log2 + j.natAbs.log2 < 1000000) || (decide (-(2 ^ 64) < i ∧ i < 2 ^ 64) || decide (-(2 ^ 64) < j ∧ j < 2 ^ 64))
def repL (ds : List D) (k : Int) : O (List D) := if -(lim : Int) ≤ k ∧ k ≤ lim ∧ ds.length * k.toNat ≤ lim then .ok (List.replicate k.toNat ds).flatten else .bad
def dSub : D → D → O D
  | .int i, .int j => .ok (.int (i - j))
  | _, _ => .bad
def dFdiv : D → D → O D
  | .int i, .int j => if 0 < j ∧ j.natAbs.log2 < 9000 then .ok (.int (i / j)) else .bad
  | _, _ => .bad
def dMod : D → D → O D
  | .int i, .int j => if 0 < j then .ok (.int (i % j)) else .bad
  | _, _ => .bad
def dPow : D → D → O D
  | .int i, .int j => if 0 ≤ j ∧ j ≤ 1000000 ∧ i.natAbs < 2 ^ 64 then .ok (.int (i ^ j.toNat)) else .bad
  | _, _ => .bad
def dNeg : D → O D
  | .int i => .ok (.int (-i))
  | _ => .bad
theorem opf_int {r : R2} {C : Int → Int → Prop} {g : Int → Int → Int} {op : D → D → O D}
    (hr : ∀ i j H Q, C i j → Q (V.int (g i j)) H → r (.int i) (.int j) H Q)
    (ho : ∀ d e z, op d e = .ok z → ∃ i j, d = .int i ∧ e = .int j ∧ C i j ∧ z = .int (g i j)) (hx : ∀ d e n, op d e ≠ .ex n) : OpF K c b r op := fun F H x y d e Q s rx ry q => by
  cases h : op d e with
  | ok z =>
    rw [h] at q
    obtain ⟨i, j, rfl, rfl, hc, rfl⟩ := ho d e z h
    rw [rx.int, ry.int]
    exact hr i j H Q hc (q _ _ _ (Ext.refl s) (by cases b with | true => exact .int _ | false => exact .inl (.int _)))
  | ex n => exact absurd h (hx d e n)
  | bad => rw [h] at q; exact q.elim
theorem opf_blI {r : R2} {g : Int → Int → Bool} {op : D → D → O D}
    (hr : ∀ i j H Q, Q (V.bl (g i j)) H → r (.int i) (.int j) H Q)
    (ho : ∀ d e z, op d e = .ok z → ∃ i j, d = .int i ∧ e = .int j ∧ z = .bool (g i j)) (hx : ∀ d e n, op d e ≠ .ex n) : OpF K c b r op := fun F H x y d e Q s rx ry q => by
  cases h : op d e with
  | ok z =>
    rw [h] at q
    obtain ⟨i, j, rfl, rfl, rfl⟩ := ho d e z h
    rw [rx.int, ry.int]
    exact hr i j H Q (q _ _ _ (Ext.refl s) (by cases b with | true => exact .bl _ | false => exact .inl (.bl _)))
  | ex n => exact absurd h (hx d e n)
  | bad => rw [h] at q; exact q.elim
theorem opf_sub : OpF K c b (rI0 fun i j => .int (i - j)) dSub := opf_int (C := fun _ _ => True) (fun i j H Q _ q => ⟨i, j, rfl, rfl, q⟩)
  (fun d e z h => by unfold dSub at h; split at h <;> first | (cases h; exact ⟨_, _, rfl, rfl, trivial, rfl⟩) | cases h) (fun d e n h => by unfold dSub at h; split at h <;> cases h)
theorem opf_mod : OpF K c b (rI (fun _ j => 0 < j) fun i j => .int (i % j)) dMod := opf_int (C := fun _ j => 0 < j) (fun i j H Q h q => ⟨i, j, rfl, rfl, h, q⟩)
  (fun d e z h => by unfold dMod at h; split at h <;> first | (split at h <;> first | (cases h; exact ⟨_, _, rfl, rfl, ‹_›, rfl⟩) | cases h) | cases h) (fun d e n h => by unfold dMod at h; split at h <;> (try split at h) <;> cases h)
theorem opf_fdiv : OpF K c b (rI CDivW fun i j => .int (i / j)) dFdiv := opf_int (C := CDivW) (fun i j H Q h q => ⟨i, j, rfl, rfl, h, q⟩)
  (fun d e z h => by unfold dFdiv at h; split at h <;> first | (split at h <;> first | (cases h; exact ⟨_, _, rfl, rfl, ‹_›, rfl⟩) | cases h) | cases h) (fun d e n h => by unfold dFdiv at h; split at h <;> (try split at h) <;> cases h)
theorem opf_pow : OpF K c b (rI CPow fun i j => .int (i ^ j.toNat)) dPow := opf_int (C := CPow) (fun i j H Q h q => ⟨i, j, rfl, rfl, h, q⟩)
  (fun d e z h => by unfold dPow at h; split at h <;> first | (split at h <;> first | (cases h; exact ⟨_, _, rfl, rfl, ‹_›, rfl⟩) | cases h) | cases h) (fun d e n h => by unfold dPow at h; split at h <;> (try split at h) <;> cases h)
theorem unf_neg : UnF K c b (rU fun i => .int (-i)) dNeg := fun F H x d Q s rx q => by
  unfold dNeg at q
  split at q
  · rename_i i
    have rx : Rep1 K c F H x (.int i) := rx
    rw [rx.int]
    exact ⟨i, rfl, q _ _ _ (Ext.refl s) (by cases b with | true => exact .int _ | false => exact .inl (.int _))⟩
  · exact q.elim
def dLt : D → D → O D
  | .int i, .int j => .ok (.bool (decide (i < j)))
  | _, _ => .bad
def dLe : D → D → O D
  | .int i, .int j => .ok (.bool (decide (i ≤ j)))
  | _, _ => .bad
def dGt : D → D → O D
  | .int i, .int j => .ok (.bool (decide (j < i)))
  | _, _ => .bad
def dGe : D → D → O D
  | .int i, .int j => .ok (.bool (decide (j ≤ i)))
  | _, _ => .bad
theorem opf_lt : OpF K c b (rI0 fun i j => .bl (decide (i < j))) dLt := opf_blI (fun i j H Q q => ⟨i, j, rfl, rfl, q⟩)
  (fun d e z h => by unfold dLt at h; split at h <;> first | (cases h; exact ⟨_, _, rfl, rfl, rfl⟩) | cases h) (fun d e n h => by unfold dLt at h; split at h <;> cases h)
theorem opf_le : OpF K c b (rI0 fun i j => .bl (decide (i ≤ j))) dLe := opf_blI (fun i j H Q q => ⟨i, j, rfl, rfl, q⟩)
  (fun d e z h => by unfold dLe at h; split at h <;> first | (cases h; exact ⟨_, _, rfl, rfl, rfl⟩) | cases h) (fun d e n h => by unfold dLe at h; split at h <;> cases h)
theorem opf_gt : OpF K c b (rI0 fun i j => .bl (decide (j < i))) dGt := opf_blI (fun i j H Q q => ⟨i, j, rfl, rfl, q⟩)
  (fun d e z h => by unfold dGt at h; split at h <;> first | (cases h; exact ⟨_, _, rfl, rfl, rfl⟩) | cases h) (fun d e n h => by unfold dGt at h; split at h <;> cases h)
theorem opf_ge : OpF K c b (rI0 fun i j => .bl (decide (j ≤ i))) dGe := opf_blI (fun i j H Q q => ⟨i, j, rfl, rfl, q⟩)
  (fun d e z h => by unfold dGe at h; split at h <;> first | (cases h; exact ⟨_, _, rfl, rfl, rfl⟩) | cases h) (fun d e n h => by unfold dGe at h; split at h <;> cases h)
/-! ### + -/
def dCat : D → D → O (List D)
  | .list xs, .list ys => if xs.length + ys.length ≤ lim then .ok (xs ++ ys) else .bad
  | _, _ => .bad
theorem opo_cat : OpO K c rCat dCat := fun F H x y d e Q s rx ry q => by
  unfold dCat at q
  split at q
  · rename_i xs ys
    have rx : Rep1 K c F H x (.list xs) := rx
    have ry : Rep1 K c F H y (.list ys) := ry
    split at q
    · rename_i hl
      obtain ⟨a, us, rfl, h1, r1⟩ := rx.lst s
      obtain ⟨a2, us2, rfl, h2, r2⟩ := ry.lst s
      refine ⟨a, a2, us, us2, rfl, rfl, h1, h2, by rw [r1.length, r2.length]; exact le_lim hl, fun p hp => ?_⟩
      exact q p _ _ F (Ext.newO s hp) upd_same (s.free hp) hp (r1.append r2)
    · exact q.elim
  · exact q.elim
theorem dCat_ex : ∀ d e n, dCat d e ≠ .ex n := fun d e n h => by
  unfold dCat at h
  split at h <;> (try split at h) <;> cases h
def rAddS : R2 := fun x y H Q => ∃ i j, x = .str i ∧ y = .str j ∧ i.length + j.length ≤ sizeLine ∧ Q (.str (i ++ j)) H
def rAddAll (K : PySem.W.Frag) : R2 := fun x y H Q => rI0 (fun i j => .int (i + j)) x y H Q ∨ rCat x y H Q ∨ rCatT K x y H Q ∨ rAddS x y H Q
theorem op_addAll {X : Cx} : OpR X (binaryOp .Add) (rAddAll X.K) := op_add.or (op_cat.or (op_catT.or op_add_str))
def dAdd : D → D → O D
  | .int i, .int j => .ok (.int (i + j))
  | .list xs, .list ys => if xs.length + ys.length ≤ lim then .ok (.list (xs ++ ys)) else .bad
  | .tuple xs, .tuple ys => if xs ≠ [] ∧ xs.length + ys.length ≤ lim then .ok (.tuple (xs ++ ys)) else .bad
  | .str i, .str j => if i.length + j.length ≤ lim then .ok (.str (i ++ j)) else .bad
  | _, _ => .bad
theorem RepB.of {v : V} {d : D} (r : Rep K c.cls F v d) : RepB K c b F H v d := by
  cases b with
  | true => exact r
  | false => exact .inl r
theorem opf_add : OpF K c b (rAddAll K) dAdd := fun F H x y d e Q s rx ry q => by
  unfold dAdd at q
  split at q
  · rename_i i j
    have rx : Rep1 K c F H x (.int i) := rx
    have ry : Rep1 K c F H y (.int j) := ry
    exact .inl ⟨i, j, rx.int, ry.int, q _ _ _ (Ext.refl s) (.of (.int _))⟩
  · rename_i xs ys
    have rx : Rep1 K c F H x (.list xs) := rx
    have ry : Rep1 K c F H y (.list ys) := ry
    split at q
    · rename_i hl
      obtain ⟨a, us, rfl, h1, r1⟩ := rx.lst s
      obtain ⟨a2, us2, rfl, h2, r2⟩ := ry.lst s
      refine .inr (.inl ⟨a, a2, us, us2, rfl, rfl, h1, h2, by rw [r1.length, r2.length]; exact le_lim hl, fun p hp => ?_⟩)
      exact q _ _ _ (Ext.new s hp) (.of (.ls upd_same ((r1.append r2).mono (same_upd (s.free hp)))))
    · exact q.elim
  · rename_i xs ys
    have rx : Rep1 K c F H x (.tuple xs) := rx
    have ry : Rep1 K c F H y (.tuple ys) := ry
    split at q
    · rename_i hl
      obtain ⟨a, us, rfl, h1, r1, rr⟩ := rx.tup s
      obtain ⟨a2, us2, rfl, h2, r2, _⟩ := ry.tup s
      have ne : us ≠ [] := fun z => by
        subst z
        cases r1
        exact hl.1 rfl
      refine .inr (.inr (.inl ⟨a, a2, us, us2, rfl, rfl, h1, h2, ne, by rw [r1.length, r2.length]; exact le_lim hl.2, fun z => ?_, fun z p hp => ?_⟩))
      · subst z
        cases r2
        have q := q (.ref a) H F (Ext.refl s)
        rw [List.append_nil] at q
        exact q (.of rr)
      · exact q _ _ _ (Ext.new s hp) (.of (.tp (SqT.of upd_same) ((r1.append r2).mono (same_upd (s.free hp)))))
    · exact q.elim
  · rename_i i j
    have rx : Rep1 K c F H x (.str i) := rx
    have ry : Rep1 K c F H y (.str j) := ry
    split at q
    · rename_i hl
      exact .inr (.inr (.inr ⟨i, j, rx.str, ry.str, le_lim hl, q _ _ _ (Ext.refl s) (.of (.str _))⟩))
    · exact q.elim
  · exact q.elim
/-! ### * -/
def dRep : D → D → O (List D)
  | .list xs, .int k => repL xs k
  | _, _ => .bad
theorem repL_ok {xs : List D} {k : Int} {ys : List D} (h : repL xs k = .ok ys) : -(lim : Int) ≤ k ∧ k ≤ lim ∧ xs.length * k.toNat ≤ lim ∧ ys = (List.replicate k.toNat xs).flatten := by
  unfold repL at h
  split at h
  · rename_i q
    cases h
    exact ⟨q.1, q.2.1, q.2.2, rfl⟩
  · cases h
theorem opo_rep : OpO K c rRep dRep := fun F H x y d e Q s rx ry q => by
  unfold dRep at q
  split at q
  · rename_i xs k
    have rx : Rep1 K c F H x (.list xs) := rx
    have ry : Rep1 K c F H y (.int k) := ry
    cases h : repL xs k with
    | ok ys =>
      rw [h] at q
      obtain ⟨h1, h2, h3, rfl⟩ := repL_ok h
      obtain ⟨a, us, rfl, h4, r1⟩ := rx.lst s
      refine ⟨a, k, us, rfl, ry.int, h4, by unfold lim at h1; omega, by unfold lim at h2; omega, by rw [r1.length]; exact le_lim h3, fun p hp => ?_⟩
      exact q p _ _ F (Ext.newO s hp) upd_same (s.free hp) hp (r1.rep _)
    | ex n => rw [h] at q; exact q.elim
    | bad => rw [h] at q; exact q.elim
  · exact q.elim
theorem dRep_ex : ∀ d e n, dRep d e ≠ .ex n := fun d e n h => by
  unfold dRep repL at h
  split at h <;> (try split at h) <;> cases h
def rMulAll (K : PySem.W.Frag) : R2 := fun x y H Q => rI CMulW (fun i j => .int (i * j)) x y H Q ∨ rI CMul (fun i j => .int (i * j)) x y H Q ∨ rRep x y H Q ∨ rRepT K x y H Q ∨ rRepT1 K x y H Q
theorem op_mulAll {X : Cx} : OpR X (binaryOp .Mult) (rMulAll X.K) := op_mulW.or (op_mul.or (op_rep.or (op_repT.or op_repT1)))
def dMul : D → D → O D
  | .int i, .int j => if mulOk i j = true then .ok (.int (i * j)) else .bad
  | .list xs, .int k => (repL xs k).bind fun ys => .ok (.list ys)
  | .tuple xs, .int k => if xs ≠ [] ∧ 1 ≤ k ∧ k ≤ 1000 ∧ xs.length ≤ 1000 then .ok (.tuple (List.replicate k.toNat xs).flatten) else .bad
  | _, _ => .bad
theorem opf_mul : OpF K c b (rMulAll K) dMul := fun F H x y d e Q s rx ry q => by
  unfold dMul at q
  split at q
  · rename_i i j
    have rx : Rep1 K c F H x (.int i) := rx
    have ry : Rep1 K c F H y (.int j) := ry
    split at q
    · rename_i h
      have h0 := q _ _ _ (Ext.refl s) (.of (.int _))
      unfold mulOk at h
      rw [Bool.or_eq_true, Bool.or_eq_true] at h
      rcases h with h | h | h
      · exact .inl ⟨i, j, rx.int, ry.int, of_decide_eq_true (p := i.natAbs.log2 + j.natAbs.log2 < 1000000) h, h0⟩
      · exact .inr (.inl ⟨i, j, rx.int, ry.int, .inl (of_decide_eq_true h), h0⟩)
      · exact .inr (.inl ⟨i, j, rx.int, ry.int, .inr (of_decide_eq_true h), h0⟩)
    · exact q.elim
  · rename_i xs k
    refine .inr (.inr (.inl (opo_rep F H x y (.list xs) (.int k) Q s rx ry ?_)))
    replace q := OPost.bind q
    refine OPost.imp (fun ds q a us H1 F1 e1 h1 h2 h3 r1 => ?_) (fun _ q => q) q
    exact q _ _ _ (e1.keep h3 h1) (.of (.ls upd_same (r1.mono (same_upd h2))))
  · rename_i xs k
    have rx : Rep1 K c F H x (.tuple xs) := rx
    have ry : Rep1 K c F H y (.int k) := ry
    split at q
    · rename_i hl
      obtain ⟨a, us, rfl, h1, r1, rr⟩ := rx.tup s
      have ne : us ≠ [] := fun z => by
        subst z
        cases r1
        exact hl.1 rfl
      by_cases h2 : k = 1
      · subst h2
        have e : (List.replicate (1 : Int).toNat xs).flatten = xs := by
          show (List.replicate 1 xs).flatten = xs
          rw [List.replicate_one, List.flatten_singleton]
        rw [e] at q
        exact .inr (.inr (.inr (.inr ⟨a, us, rfl, ry.int, h1, q _ _ _ (Ext.refl s) (.of rr)⟩)))
      · refine .inr (.inr (.inr (.inl ⟨a, k, us, rfl, ry.int, h1, ne, by omega, hl.2.2.1, by rw [r1.length]; exact hl.2.2.2, fun p hp => ?_⟩)))
        exact q _ _ _ (Ext.new s hp) (.of (.tp (SqT.of upd_same) ((r1.rep _).mono (same_upd (s.free hp)))))
    · exact q.elim
  · exact q.elim
/-! ### ==, !=, in -/
def scalD : D → D → Bool
  | .none, .none => true | .none, .int _ => true | .int _, .none => true | .none, .bool _ => true | .bool _, .none => true | .none, .str _ => true | .str _, .none => true
  | .int _, .int _ => true | .bool _, .bool _ => true | .str _, .str _ => true
  | .int _, .str _ => true | .str _, .int _ => true | .bool _, .str _ => true | .str _, .bool _ => true
  | _, _ => false
def okEq (d : D) : Bool := plainD d && SeqAt.shaped d
def dEq (d e : D) : O D := if (scalD d e || (okEq d && okEq e)) = true then .ok (.bool (PyData.eqv d e)) else .bad
def dNe (d e : D) : O D := if (scalD d e || (okEq d && okEq e)) = true then .ok (.bool (!PyData.eqv d e)) else .bad
theorem scal_of {v w : V} {d e : D} (rx : Rep1 K c F H v d) (ry : Rep1 K c F H w e) (h : scalD d e = true) : scal v w = true ∧ decide (v = w) = PyData.eqv d e := by
  unfold scalD at h
  split at h <;> first
    | (cases h; done)
    | (simp only [rx.non, ry.non, rx.int, ry.int, rx.bl, ry.bl, rx.str, ry.str]; exact ⟨rfl, rfl⟩)
    | (rw [rx.non, ry.non]; exact ⟨rfl, rfl⟩)
    | (rw [rx.non, ry.int]; exact ⟨rfl, rfl⟩)
    | (rw [rx.int, ry.non]; exact ⟨rfl, rfl⟩)
    | (rw [rx.non, ry.bl]; exact ⟨rfl, rfl⟩)
    | (rw [rx.bl, ry.non]; exact ⟨rfl, rfl⟩)
    | (rw [rx.non, ry.str]; exact ⟨rfl, rfl⟩)
    | (rw [rx.str, ry.non]; exact ⟨rfl, rfl⟩)
    | (rw [rx.int, ry.int]; exact ⟨rfl, dec_int⟩)
    | (rw [rx.bl, ry.bl]; exact ⟨rfl, dec_bl⟩)
    | (rw [rx.str, ry.str]; exact ⟨rfl, dec_str⟩)
    | (rw [rx.int, ry.str]; exact ⟨rfl, rfl⟩)
    | (rw [rx.str, ry.int]; exact ⟨rfl, rfl⟩)
    | (rw [rx.bl, ry.str]; exact ⟨rfl, rfl⟩)
    | (rw [rx.str, ry.bl]; exact ⟨rfl, rfl⟩)
def rEqAll (K : PySem.W.Frag) : R2 := fun x y H Q => rEq x y H Q ∨ rEqD K x y H Q
def rNeAll (K : PySem.W.Frag) : R2 := fun x y H Q => rNe x y H Q ∨ rNeD K x y H Q
theorem op_eqAll {X : Cx} (hu : X.A.units + 64 < cLine) : OpR X (compareOp .Eq) (rEqAll X.K) := op_eq.or (op_eqD hu)
theorem op_neAll {X : Cx} (hu : X.A.units + 64 < cLine) : OpR X (compareOp .NotEq) (rNeAll X.K) := op_ne.or (op_neD hu)
theorem opf_eq : OpF K c b (rEqAll K) dEq := fun F H x y d e Q s rx ry q => by
  unfold dEq at q
  split at q
  · rename_i h
    have h0 := q _ _ _ (Ext.refl s) (.of (.bl _))
    rw [Bool.or_eq_true] at h
    rcases h with h | h
    · obtain ⟨h1, h2⟩ := scal_of rx ry h
      exact .inl ⟨h1, by rw [h2]; exact h0⟩
    · unfold okEq at h
      simp only [Bool.and_eq_true] at h
      exact .inr ⟨d, e, (rx.full s).dp h.1.1, (ry.full s).dp h.2.1, h.1.2, h.2.2, h0⟩
  · exact q.elim
theorem opf_ne : OpF K c b (rNeAll K) dNe := fun F H x y d e Q s rx ry q => by
  unfold dNe at q
  split at q
  · rename_i h
    have h0 := q _ _ _ (Ext.refl s) (.of (.bl _))
    rw [Bool.or_eq_true] at h
    rcases h with h | h
    · obtain ⟨h1, h2⟩ := scal_of rx ry h
      exact .inl ⟨h1, by rw [h2]; exact h0⟩
    · unfold okEq at h
      simp only [Bool.and_eq_true] at h
      exact .inr ⟨d, e, (rx.full s).dp h.1.1, (ry.full s).dp h.2.1, h.1.2, h.2.2, h0⟩
  · exact q.elim
def flatD : D → Bool
  | .none | .bool _ | .int _ | .str _ => true
  | _ => false
theorem flat_of {v : V} {d : D} (r : Rep1 K c F H v d) (h : flatD d = true) : flatV v = true := by
  unfold flatD at h
  split at h <;> first
    | (cases h; done)
    | (rw [r.non]; rfl) | (rw [r.bl]; rfl) | (rw [r.int]; rfl) | (rw [r.str]; rfl)
theorem eqV_of {v w : V} {d e : D} (rx : Rep1 K c F H v d) (ry : Rep1 K c F H w e) (hx : flatD d = true) (hy : flatD e = true) : eqV v w = PyData.eqv d e := by
  unfold flatD at hx hy
  split at hx <;> first
    | (cases hx; done)
    | (split at hy <;> first
        | (cases hy; done)
        | (rw [rx.non, ry.non]; rfl) | (rw [rx.non, ry.bl]; rfl) | (rw [rx.non, ry.int]; rfl) | (rw [rx.non, ry.str]; rfl)
        | (rw [rx.bl, ry.non]; rfl) | (rw [rx.bl, ry.bl]; rfl) | (rw [rx.bl, ry.int]; rfl) | (rw [rx.bl, ry.str]; rfl)
        | (rw [rx.int, ry.non]; rfl) | (rw [rx.int, ry.bl]; rfl) | (rw [rx.int, ry.int]; rfl) | (rw [rx.int, ry.str]; rfl)
        | (rw [rx.str, ry.non]; rfl) | (rw [rx.str, ry.bl]; rfl) | (rw [rx.str, ry.int]; rfl) | (rw [rx.str, ry.str]; rfl))
theorem flats_of : ∀ {xs : List V} {ds : List D}, RepL K c.cls F xs ds → ds.all flatD = true → xs.all flatV = true
  | _, _, .nil, _ => rfl
  | _, _, .cons r t, h => by
    rw [List.all_cons, Bool.and_eq_true] at h ⊢
    exact ⟨flat_of (H := F) (.inl r) h.1, flats_of t h.2⟩
theorem inV_of {v : V} {d : D} (rx : Rep1 K c F H v d) (hx : flatD d = true) : ∀ {xs : List V} {ds : List D}, RepL K c.cls F xs ds → ds.all flatD = true → inV v xs = ds.any fun e => PyData.eqv e d
  | _, _, .nil, _ => rfl
  | _, _, .cons (v := w) (vs := ws) (d := e) (ds := es) r t, h => by
    rw [List.all_cons, Bool.and_eq_true] at h
    have h1 : eqV w v = PyData.eqv e d := eqV_of (H := H) (.inl r) rx h.1 hx
    have h2 := inV_of rx hx t h.2
    unfold inV at h2 ⊢
    rw [List.any_cons, List.any_cons, h1, h2]
def rInS (neg : Bool) : R2 := fun x y H Q => ∃ i j, x = .str i ∧ y = .str j ∧ Q (.bl (if neg then !(!(Builtin.Str.occurrences j i 0 j.length 1).isEmpty) else !(Builtin.Str.occurrences j i 0 j.length 1).isEmpty)) H
def rInAll (K : PySem.W.Frag) (neg : Bool) : R2 := fun x y H Q => rIn K neg x y H Q ∨ rInS neg x y H Q
theorem op_inAll {X : Cx} : OpR X (compareOp .In) (rInAll X.K false) := op_in_seq.or op_in_str
theorem op_notInAll {X : Cx} : OpR X (compareOp .NotIn) (rInAll X.K true) := op_notIn_seq.or op_notIn_str
def dInB : D → D → O Bool
  | d, .list es => if (flatD d && es.all flatD) = true then .ok (es.any fun e => PyData.eqv e d) else .bad
  | d, .tuple es => if (flatD d && es.all flatD) = true then .ok (es.any fun e => PyData.eqv e d) else .bad
  | .str i, .str j => .ok (!(Builtin.Str.occurrences j i 0 j.length 1).isEmpty)
  | _, _ => .bad
def negB : Bool → Bool → Bool
  | true, k => !k
  | false, k => k
theorem negB_if (neg k : Bool) : (if neg = true then !k else k) = negB neg k := by cases neg <;> rfl
def dIn (neg : Bool) (d e : D) : O D := (dInB d e).bind fun k => .ok (.bool (negB neg k))
theorem opf_in {neg : Bool} : OpF K c b (rInAll K neg) (dIn neg) := fun F H x y d e Q s rx ry q => by
  replace q := OPost.bind q
  unfold dInB at q
  split at q
  · rename_i es
    have ry : Rep1 K c F H y (.list es) := ry
    split at q
    · rename_i h
      rw [Bool.and_eq_true] at h
      obtain ⟨a, us, rfl, h1, r1⟩ := ry.lst s
      refine .inl ⟨a, us, rfl, .inl (SqL.of h1), flat_of rx h.1, flats_of r1 h.2, ?_⟩
      rw [inV_of rx h.1 r1 h.2, negB_if]
      exact q _ _ _ (Ext.refl s) (.of (.bl _))
    · exact q.elim
  · rename_i es
    have ry : Rep1 K c F H y (.tuple es) := ry
    split at q
    · rename_i h
      rw [Bool.and_eq_true] at h
      obtain ⟨a, us, rfl, h1, r1, _⟩ := ry.tup s
      refine .inl ⟨a, us, rfl, .inr h1, flat_of rx h.1, flats_of r1 h.2, ?_⟩
      rw [inV_of rx h.1 r1 h.2, negB_if]
      exact q _ _ _ (Ext.refl s) (.of (.bl _))
    · exact q.elim
  · rename_i i j
    have rx : Rep1 K c F H x (.str i) := rx
    have ry : Rep1 K c F H y (.str j) := ry
    refine .inr ⟨i, j, rx.str, ry.str, ?_⟩
    rw [negB_if]
    exact q _ _ _ (Ext.refl s) (.of (.bl _))
  · exact q.elim
def isNon : D → Bool
  | .none => true
  | _ => false
theorem isNon_of {v : V} {d : D} (r : Rep1 K c F H v d) : decide (v = .non) = isNon d := by
  rcases r with r | ⟨a, xs, ds, rfl, rfl, _⟩
  · cases r <;> rfl
  · rfl
def dIsN (d e : D) : O D := if isNon e = true then .ok (.bool (isNon d)) else .bad
def dNotN (d e : D) : O D := if isNon e = true then .ok (.bool (!isNon d)) else .bad
theorem non_of {v : V} {d : D} (r : Rep1 K c F H v d) (h : isNon d = true) : v = .non := by
  unfold isNon at h
  split at h
  · exact r.non
  · cases h
theorem opf_isN : OpF K c b (fun x y H Q => y = .non ∧ Q (.bl (decide (x = .non))) H) dIsN := fun F H x y d e Q s rx ry q => by
  unfold dIsN at q
  split at q
  · rename_i h
    refine ⟨non_of ry h, ?_⟩
    rw [isNon_of rx]
    exact q _ _ _ (Ext.refl s) (.of (.bl _))
  · exact q.elim
theorem opf_notN : OpF K c b (fun x y H Q => y = .non ∧ Q (.bl (!decide (x = .non))) H) dNotN := fun F H x y d e Q s rx ry q => by
  unfold dNotN at q
  split at q
  · rename_i h
    refine ⟨non_of ry h, ?_⟩
    rw [isNon_of rx]
    exact q _ _ _ (Ext.refl s) (.of (.bl _))
  · exact q.elim
/-! ### subscripts -/
def dIx : D → D → O D
  | .list ds, .int i => match atI ds i with
    | some d => .ok d
    | none => .bad
  | .tuple ds, .int i => match atI ds i with
    | some d => .ok d
    | none => .bad
  | .dict [(.none, .list ds)], .int i => match atI ds i with
    | some d => .ok d
    | none => .bad
  | .str z, .int i => if z.length ≤ lim then (match atI z.cps.toList i with
    | some x => .ok (.str ⟨#[x]⟩)
    | none => .bad) else .bad
  | _, _ => .bad
theorem atI_rep {xs : List V} {ds : List D} {i : Int} {d : D} (r : RepL K c.cls F xs ds) (h : atI ds i = some d) : ∃ v, atI xs i = some v ∧ Rep K c.cls F v d := by
  unfold atI at h ⊢
  rw [r.length]
  cases e : ixN ds.length i with
  | none => rw [e] at h; cases h
  | some j =>
    rw [e] at h
    exact r.get h
theorem opf_ix : OpF K c b (rIx K) dIx := fun F H x y d e Q s rx ry q => by
  unfold dIx at q
  split at q
  · rename_i ds i
    have rx : Rep1 K c F H x (.list ds) := rx
    have ry : Rep1 K c F H y (.int i) := ry
    split at q
    · rename_i d h
      obtain ⟨a, us, rfl, h1, r1⟩ := rx.lst s
      obtain ⟨v, h2, r2⟩ := atI_rep r1 h
      exact .inl ⟨a, us, i, v, rfl, ry.int, SqL.of h1, h2, q _ _ _ (Ext.refl s) (.of r2)⟩
    · exact q.elim
  · rename_i ds i
    have rx : Rep1 K c F H x (.tuple ds) := rx
    have ry : Rep1 K c F H y (.int i) := ry
    split at q
    · rename_i d h
      obtain ⟨a, us, rfl, h1, r1, _⟩ := rx.tup s
      obtain ⟨v, h2, r2⟩ := atI_rep r1 h
      exact .inr (.inl ⟨a, us, i, v, rfl, ry.int, h1, h2, q _ _ _ (Ext.refl s) (.of r2)⟩)
    · exact q.elim
  · rename_i ds i
    have rx : Rep1 K c F H x (D.ro ds) := rx
    have ry : Rep1 K c F H y (.int i) := ry
    split at q
    · rename_i d h
      obtain ⟨a, us, rfl, h1, r1⟩ := rx.roL s
      obtain ⟨v, h2, r2⟩ := atI_rep r1 h
      exact .inl ⟨a, us, i, v, rfl, ry.int, h1, h2, q _ _ _ (Ext.refl s) (.of r2)⟩
    · exact q.elim
  · rename_i z i
    have rx : Rep1 K c F H x (.str z) := rx
    have ry : Rep1 K c F H y (.int i) := ry
    split at q
    · rename_i hl
      split at q
      · rename_i d h
        exact .inr (.inr ⟨z, i, d, rx.str, ry.int, le_lim hl, h, q _ _ _ (Ext.refl s) (.of (.str _))⟩)
      · exact q.elim
    · exact q.elim
  · exact q.elim
end
end Fn

set_option Elab.async false
set_option linter.all false
set_option maxRecDepth 100000
/-! Slices, fields, built-in calls, own defs by data. -/
namespace Fn
open PySem PySem.Spec L2

section
variable {K : PySem.W.Frag} {c : Ct} {own : List Nat} {b : Bool} {F H F' H' : Hp} {σ : St} {ρ : Rho}
/-! ### slices -/
def PP1 (c : Ct) (σ : St) (F H : Hp) (Q : Option Int → Hp → Prop) : O (Option Int) → Prop := OPost (fun k => ∀ H' F', Ext F H F' H' → Q k H') fun n => ∀ H', Same H H' → c.W (.ref (c.xc n)) none σ H'
def FP (K : PySem.W.Frag) (c : Ct) (own : List Nat) (t : TO) (g : Rho → O (Option Int)) : Prop := ∀ σ H F ρ Q, Sim K c.cls c.B own σ H F ρ → PP1 c σ F H Q (g ρ) → t σ H Q
def gNoP : Rho → O (Option Int) := fun _ => .ok none
def gPart (g : Rho → O D) : Rho → O (Option Int) := fun ρ => (g ρ).bind fun d => match d with
  | .int i => .ok (some i)
  | _ => .bad
theorem fp_none : FP K c own tNoPart gNoP := fun σ H F ρ Q S q => q H F (Ext.refl S.s)
theorem fp_some {t : TE} {g : Rho → O D} (h : FE K c own false t g) : FP K c own (tPart t) (gPart g) := fun σ H F ρ Q S q => by
  refine h σ H F ρ _ S (OPost.imp (fun d q v H1 F1 e1 r1 => ?_) (fun _ q => q) (OPost.bind q))
  split at q
  · rename_i i
    have r1 : Rep1 K c F1 H1 v (.int i) := r1
    exact ⟨i, r1.int, q H1 F1 e1⟩
  · exact q.elim
def cutL {α : Type} (xs : List α) (lo hi : Option Int) : List α := (xs.drop (HT.sIx xs.length 0 lo)).take (HT.sIx xs.length xs.length hi - HT.sIx xs.length 0 lo)
theorem cut_rep {xs : List V} {ds : List D} (r : RepL K c.cls F xs ds) (lo hi : Option Int) : RepL K c.cls F (cutV xs lo hi) (cutL ds lo hi) := by
  unfold cutV cutL
  rw [r.length]
  exact RepL.take _ (RepL.drop _ r)
def wholeCut (n : Nat) (lo hi : Option Int) : Bool := decide (HT.sIx n 0 lo = 0) && decide (HT.sIx n n hi = n)
def rSlAll (K : PySem.W.Frag) : V → Option Int → Option Int → Hp → VK → Prop := fun x lo hi H Q => rSlL K x lo hi H Q ∨ rSlT K x lo hi H Q ∨ rSlS x lo hi H Q
theorem sl_all {X : Cx} : SlR X (rSlAll X.K) := sl_list.or (sl_tup.or sl_str)
def dSl : D → Option Int → Option Int → O D
  | .list ds, lo, hi => .ok (.list (cutL ds lo hi))
  | .tuple ds, lo, hi => if wholeCut ds.length lo hi = true then .bad else .ok (.tuple (cutL ds lo hi))
  | .str z, lo, hi => if z.length ≤ lim then .ok (.str (cutS z lo hi)) else .bad
  | _, _, _ => .bad
def gSl (g : Rho → O D) (gl gh : Rho → O (Option Int)) : Rho → O D := fun ρ => (g ρ).bind fun d => (gl ρ).bind fun lo => (gh ρ).bind fun hi => dSl d lo hi
theorem dSl_ex : ∀ d lo hi n, dSl d lo hi ≠ .ex n := fun d lo hi n h => by
  unfold dSl at h
  split at h <;> (try split at h) <;> cases h
theorem fe_slice {t : TE} {tl th : TO} {g : Rho → O D} {gl gh : Rho → O (Option Int)} (h : FE K c own false t g) (hl : FP K c own tl gl) (hh : FP K c own th gh) : FE K c own b (tSl (rSlAll K) t tl th) (gSl g gl gh) := fun σ H F ρ Q S q => by
  refine h σ H F ρ _ S (OPost.imp (fun d q v H1 F1 e1 r1 => ?_) (fun _ q => q) (OPost.bind q))
  refine hl σ H1 F1 ρ _ (S.ext e1) (OPost.imp (fun lo q H2 F2 e2 => ?_) (fun _ q H2 s => q H2 (e1.h.trans s)) (OPost.bind q))
  refine hh σ H2 F2 ρ _ ((S.ext e1).ext e2) (OPost.imp (fun hi q H3 F3 e3 => ?_) (fun _ q H2 s => q H2 ((e1.trans e2).h.trans s)) (OPost.bind q))
  have r3 : Rep1 K c F3 H3 v d := Rep1.ext r1 (e2.trans e3)
  have e := (e1.trans e2).trans e3
  unfold dSl at q
  split at q
  · rename_i ds _ _
    have r3 : Rep1 K c F3 H3 v (.list ds) := r3
    obtain ⟨a, us, rfl, h1, r⟩ := r3.lst e.s
    exact .inl ⟨a, us, rfl, SqL.of h1, fun p hp => q _ _ _ (e.trans (Ext.new e.s hp)) (.of (.ls upd_same ((cut_rep r _ _).mono (same_upd (e.s.free hp)))))⟩
  · rename_i ds _ _
    have r3 : Rep1 K c F3 H3 v (.tuple ds) := r3
    obtain ⟨a, us, rfl, h1, r, _⟩ := r3.tup e.s
    split at q
    · exact q.elim
    · rename_i hw
      refine .inr (.inl ⟨a, us, rfl, h1, fun z => hw ?_, fun p hp => q _ _ _ (e.trans (Ext.new e.s hp)) (.of (.tp (SqT.of upd_same) ((cut_rep r _ _).mono (same_upd (e.s.free hp)))))⟩)
      unfold wholeCut
      rw [← r.length, decide_eq_true z.1, decide_eq_true z.2]
      rfl
  · rename_i z _ _
    have r3 : Rep1 K c F3 H3 v (.str z) := r3
    split at q
    · rename_i hl
      exact .inr (.inr ⟨z, r3.str, le_lim hl, q _ _ _ e (.of (.str _))⟩)
    · exact q.elim
  · exact q.elim
def dSlL : D → Option Int → Option Int → O D
  | .list ds, lo, hi => .ok (.list (cutL ds lo hi))
  | _, _, _ => .bad
def gSlL (g : Rho → O D) (gl gh : Rho → O (Option Int)) : Rho → O D := fun ρ => (g ρ).bind fun d => (gl ρ).bind fun lo => (gh ρ).bind fun hi => dSlL d lo hi
theorem fo_slice {t : TE} {tl th : TO} {g : Rho → O D} {gl gh : Rho → O (Option Int)} (h : FE K c own false t g) (hl : FP K c own tl gl) (hh : FP K c own th gh) : FO K c own (tSl (rSlL K) t tl th) (gSlL g gl gh) := fun σ H F ρ Q S q => by
  refine h σ H F ρ _ S (OPost.imp (fun d q v H1 F1 e1 r1 => ?_) (fun _ q => q) (OPost.bind q))
  refine hl σ H1 F1 ρ _ (S.ext e1) (OPost.imp (fun lo q H2 F2 e2 => ?_) (fun _ q H2 s => q H2 (e1.h.trans s)) (OPost.bind q))
  refine hh σ H2 F2 ρ _ ((S.ext e1).ext e2) (OPost.imp (fun hi q H3 F3 e3 => ?_) (fun _ q H2 s => q H2 ((e1.trans e2).h.trans s)) (OPost.bind q))
  have r3 : Rep1 K c F3 H3 v d := Rep1.ext r1 (e2.trans e3)
  have e := (e1.trans e2).trans e3
  unfold dSlL at q
  split at q
  · rename_i ds _ _
    have r3 : Rep1 K c F3 H3 v (.list ds) := r3
    obtain ⟨a, us, rfl, h1, r⟩ := r3.lst e.s
    obtain ⟨es, ee, q⟩ := q
    cases ee
    exact ⟨a, us, rfl, SqL.of h1, fun p hp => q p _ _ F3 (e.trans (Ext.newO e.s hp)) upd_same (e.s.free hp) (e.h.free hp) (cut_rep r _ _)⟩
  · exact q.elim
/-! ### fields -/
def gFld (f : Str) (k : Nat) (g : Rho → O D) : Rho → O D := fun ρ => (g ρ).bind fun d => match d with
  | .dict ((.bool true, .int j) :: gs) => if j = (k : Int) then (match fieldD f gs with
    | some e => .ok e
    | none => .bad) else .bad
  | _ => .bad
theorem fe_fld {t : TE} {g : Rho → O D} {f : Str} {k : Nat} (cl : Cls K (c.cls k)) (na : NoAttr K (c.cls k) f) (h : FE K c own false t g) : FE K c own b (tFld K t f) (gFld f k g) := fun σ H F ρ Q S q => by
  refine h σ H F ρ _ S (OPost.imp (fun d q v H1 F1 e1 r1 => ?_) (fun _ q => q) (OPost.bind q))
  split at q
  · rename_i j gs
    split at q
    · rename_i hj
      subst hj
      split at q
      · rename_i e hf
        have r1 : Rep1 K c F1 H1 v (D.ob k gs) := r1
        obtain ⟨a, dx, fs, rfl, h1, rf⟩ := r1.obj e1.s
        obtain ⟨w, h2, r2⟩ := rf.lookup hf
        exact ⟨a, c.cls k, dx, fs, w, rfl, h1, cl, na, h2, q _ _ _ e1 (.of r2)⟩
      · exact q.elim
    · exact q.elim
  · exact q.elim
/-! ### built-in calls -/
def bLen : List D → O D
  | [.list ds] => .ok (.int ds.length)
  | [.tuple ds] => .ok (.int ds.length)
  | [.dict [(.none, .list ds)]] => .ok (.int ds.length)
  | [.str z] => if z.length ≤ lim then .ok (.int z.length) else .bad
  | _ => .bad
theorem paired1 {α β : Type} {G : α → β → Prop} {xs : List α} {y : β} (h : Paired G xs [y]) : ∃ x, xs = [x] ∧ G x y := by
  cases h with
  | cons r t => cases t; exact ⟨_, rfl, r⟩
theorem paired2 {α β : Type} {G : α → β → Prop} {xs : List α} {y z : β} (h : Paired G xs [y, z]) : ∃ x x', xs = [x, x'] ∧ G x y ∧ G x' z := by
  cases h with
  | cons r t =>
    obtain ⟨x', rfl, r'⟩ := paired1 t
    exact ⟨_, _, rfl, r, r'⟩
theorem cf_len : CallF K c b (fun xs H Q => ∃ x n, xs = [x] ∧ LenV K x H n ∧ Q (.int n) H) bLen := fun F H xs ds Q s r q => by
  unfold bLen at q
  split at q
  · rename_i ds
    obtain ⟨x, rfl, rr⟩ := paired1 r
    have r : Rep1 K c F H x (.list ds) := rr
    obtain ⟨a, us, rfl, h1, r1⟩ := r.lst s
    exact ⟨_, us.length, rfl, .inl ⟨us, SqL.of h1, rfl⟩, by rw [r1.length]; exact q _ _ _ (Ext.refl s) (.of (.int _))⟩
  · rename_i ds
    obtain ⟨x, rfl, rr⟩ := paired1 r
    have r : Rep1 K c F H x (.tuple ds) := rr
    obtain ⟨a, us, rfl, h1, r1, _⟩ := r.tup s
    exact ⟨_, us.length, rfl, .inr ⟨us, h1, rfl⟩, by rw [r1.length]; exact q _ _ _ (Ext.refl s) (.of (.int _))⟩
  · rename_i ds
    obtain ⟨x, rfl, rr⟩ := paired1 r
    have r : Rep1 K c F H x (D.ro ds) := rr
    obtain ⟨a, us, rfl, h1, r1⟩ := r.roL s
    exact ⟨_, us.length, rfl, .inl ⟨us, h1, rfl⟩, by rw [r1.length]; exact q _ _ _ (Ext.refl s) (.of (.int _))⟩
  · rename_i z
    obtain ⟨x, rfl, rr⟩ := paired1 r
    have r : Rep1 K c F H x (.str z) := rr
    split at q
    · rename_i hl
      exact ⟨_, z.length, rfl, by rw [r.str]; exact ⟨le_lim hl, rfl⟩, q _ _ _ (Ext.refl s) (.of (.int _))⟩
    · exact q.elim
  · exact q.elim
/-- list(x): a new list -/
def rListOf (K : PySem.W.Frag) : List V → Hp → VK → Prop := fun xs H Q => ∃ p ys, xs = [.ref p] ∧ (SqL K H p ys ∨ SqT K H p ys) ∧ ∀ l, H l = none → Q (.ref l) (upd H l (.lst ys))
def bListL : List D → O (List D)
  | [.list ds] => .ok ds
  | [.tuple ds] => .ok ds
  | [.dict [(.none, .list ds)]] => .ok ds
  | _ => .bad
def gListOf (g : Rho → O (List D)) : Rho → O D := fun ρ => (g ρ).bind fun ds => (bListL ds).bind fun es => .ok (.list es)
theorem fo_listOf {t : TA} {g : Rho → O (List D)} (h : FA K c own false t g) : FO K c own (tCB (rListOf K) t) (gListOf g) := fun σ H F ρ Q S q => by
  refine h σ H F ρ _ S (OPost.imp (fun ds q vs H1 F1 e r1 => ?_) (fun _ q => q) (OPost.bind q))
  replace q := OPost.bind q
  unfold bListL at q
  split at q
  · rename_i ds
    obtain ⟨x, rfl, rr⟩ := paired1 (show Paired (Rep1 K c F1 H1) vs [PyData.list ds] from r1)
    have r : Rep1 K c F1 H1 x (.list ds) := rr
    obtain ⟨a, us, rfl, h1, r2⟩ := r.lst e.s
    obtain ⟨es, ee, q⟩ := q
    cases ee
    exact ⟨a, us, rfl, .inl (SqL.of h1), fun p hp => q p _ _ F1 (e.trans (Ext.newO e.s hp)) upd_same (e.s.free hp) (e.h.free hp) r2⟩
  · rename_i ds
    obtain ⟨x, rfl, rr⟩ := paired1 (show Paired (Rep1 K c F1 H1) vs [PyData.tuple ds] from r1)
    have r : Rep1 K c F1 H1 x (.tuple ds) := rr
    obtain ⟨a, us, rfl, h1, r2, _⟩ := r.tup e.s
    obtain ⟨es, ee, q⟩ := q
    cases ee
    exact ⟨a, us, rfl, .inr h1, fun p hp => q p _ _ F1 (e.trans (Ext.newO e.s hp)) upd_same (e.s.free hp) (e.h.free hp) r2⟩
  · rename_i ds
    obtain ⟨x, rfl, rr⟩ := paired1 (show Paired (Rep1 K c F1 H1) vs [D.ro ds] from r1)
    have r : Rep1 K c F1 H1 x (D.ro ds) := rr
    obtain ⟨a, us, rfl, h1, r2⟩ := r.roL e.s
    obtain ⟨es, ee, q⟩ := q
    cases ee
    exact ⟨a, us, rfl, .inl h1, fun p hp => q p _ _ F1 (e.trans (Ext.newO e.s hp)) upd_same (e.s.free hp) (e.h.free hp) r2⟩
  · exact q.elim
theorem gListOf_list {g : Rho → O (List D)} : ∀ ρ d, gListOf g ρ = .ok d → ∃ ds, d = .list ds := fun ρ d h => by
  unfold gListOf at h
  cases e : g ρ with
  | ok ds =>
    rw [e, O.bind_ok] at h
    cases e2 : bListL ds with
    | ok es => rw [e2, O.bind_ok] at h; cases h; exact ⟨_, rfl⟩
    | ex n => rw [e2] at h; cases h
    | bad => rw [e2] at h; cases h
  | ex n => rw [e] at h; cases h
  | bad => rw [e] at h; cases h
theorem fe_listOf {t : TA} {g : Rho → O (List D)} (h : FA K c own false t g) : FE K c own b (tCB (rListOf K) t) (gListOf g) := (fo_listOf h).fe gListOf_list
/-- tuple(x) -/
def rTupOf (K : PySem.W.Frag) : List V → Hp → VK → Prop := fun xs H Q => ∃ p ys, xs = [.ref p] ∧ ((SqL K H p ys ∧ ∀ l, H l = none → Q (.ref l) (upd H l (.tup ys))) ∨ (SqT K H p ys ∧ Q (.ref p) H))
def bTup : List D → O D
  | [.list ds] => .ok (.tuple ds)
  | [.tuple ds] => .ok (.tuple ds)
  | _ => .bad
theorem cf_tup : CallF K c b (rTupOf K) bTup := fun F H xs ds Q s r q => by
  unfold bTup at q
  split at q
  · rename_i ds
    obtain ⟨x, rfl, rr⟩ := paired1 r
    have r : Rep1 K c F H x (.list ds) := rr
    obtain ⟨a, us, rfl, h1, r1⟩ := r.lst s
    exact ⟨a, us, rfl, .inl ⟨SqL.of h1, fun l hl => q _ _ _ (Ext.new s hl) (.of (.tp (SqT.of upd_same) (r1.mono (same_upd (s.free hl)))))⟩⟩
  · rename_i ds
    obtain ⟨x, rfl, rr⟩ := paired1 r
    have r : Rep1 K c F H x (.tuple ds) := rr
    obtain ⟨a, us, rfl, h1, r1, rr⟩ := r.tup s
    exact ⟨a, us, rfl, .inr ⟨h1, q _ _ _ (Ext.refl s) (.of rr)⟩⟩
  · exact q.elim
/-- isinstance(x, T), T a built-in class -/
def tyD : D → Option String
  | .none => some "NoneType"
  | .bool _ => some "bool"
  | .int _ => some "int"
  | .str _ => some "str"
  | .list _ => some "list"
  | .tuple _ => some "tuple"
  | .dict [(.none, .list _)] => some "list"
  | .dict _ => none
theorem ty_of {v : V} {d : D} {t : String} (r : Rep1 K c F H v d) (s : Same F H) (h : tyD d = some t) : TyX K H v (.type t) := by
  unfold tyD at h
  split at h <;> (try (cases h; done))
  all_goals (cases h)
  · rw [r.non]; exact .base .non
  · rw [r.bl]; exact .base (.bl _)
  · rw [r.int]; exact .base (.int _)
  · rw [r.str]; exact .base (.str _)
  · obtain ⟨a, us, rfl, h1, _⟩ := r.lst s
    exact .base (.lst h1)
  · obtain ⟨a, us, rfl, h1, _⟩ := r.tup s
    rcases h1 with (h1 | ⟨o, h1⟩) | ⟨o, its, n, h1, h2, _⟩
    · exact .base (.tup h1)
    · exact .fTuple h1
    · exact .kTuple h1 h2
  · obtain ⟨a, us, rfl, h1, _⟩ := r.roL s
    rcases h1 with (h1 | ⟨o, h1⟩) | ⟨o, its, n, h1, h2, _⟩
    · exact .base (.lst h1)
    · exact .base (.frz h1)
    · exact .kList h1 h2
def isTy (t u : String) : Bool := t == u || (t == "bool" && u == "int")
def bIsi (T : String) (d : D) : O D := match tyD d with
  | some t => .ok (.bool (isTy t T))
  | none => .bad
def KitOk (T : String) : Prop := ∀ t ∈ ["NoneType", "bool", "int", "str", "list", "tuple"], kitB t T = some (isTy t T)
theorem tyD_mem {d : D} {t : String} (h : tyD d = some t) : t ∈ ["NoneType", "bool", "int", "str", "list", "tuple"] := by
  unfold tyD at h
  split at h <;> first | (cases h; simp) | cases h
theorem kit_int : KitOk "int" := by unfold KitOk; decide +kernel
theorem kit_bool : KitOk "bool" := by unfold KitOk; decide +kernel
theorem kit_str : KitOk "str" := by unfold KitOk; decide +kernel
theorem kit_list : KitOk "list" := by unfold KitOk; decide +kernel
theorem kit_tuple : KitOk "tuple" := by unfold KitOk; decide +kernel
def gIsi (T : String) (g : Rho → O D) : Rho → O D := fun ρ => (g ρ).bind (bIsi T)
theorem fe_isi {T : String} {t : TE} {g : Rho → O D} (kt : KitOk T) (h : FE K c own false t g) : FE K c own b (tCB (rIsi K) (tCons t (tCons (tC (.ty T)) tNil))) (gIsi T g) := FE.any fun σ H F ρ Q S q => by
  refine h σ H F ρ _ S (OPost.imp (fun d q v H1 F1 e r1 => ?_) (fun _ q => q) (OPost.bind q))
  unfold bIsi at q
  split at q
  · rename_i t ht
    exact ⟨v, .ty T, .type t, .type T, isTy t T, rfl, .ty T, ty_of r1 e.s ht, kit_ty (kt t (tyD_mem ht)), q _ _ _ e (.bl _)⟩
  · exact q.elim
/-- all(xs), any(xs) of a list of True and False -/
def blsD : List D → Option (List Bool)
  | [] => some []
  | .bool k :: r => (blsD r).map (k :: ·)
  | _ => none
theorem blsD_eq : ∀ {ds : List D} {ks : List Bool}, blsD ds = some ks → ds = ks.map PyData.bool
  | [], ks, h => by cases h; rfl
  | .bool k :: r, ks, h => by
    unfold blsD at h
    cases e : blsD r with
    | none => rw [e] at h; cases h
    | some ls =>
      rw [e] at h
      cases h
      rw [blsD_eq e]
      rfl
  | .none :: _, _, h => by cases h
  | .int _ :: _, _, h => by cases h
  | .str _ :: _, _, h => by cases h
  | .list _ :: _, _, h => by cases h
  | .tuple _ :: _, _, h => by cases h
  | .dict _ :: _, _, h => by cases h
def bAll : List D → O D
  | [.list ds] => match blsD ds with
    | some ks => .ok (.bool (ks.all id))
    | none => .bad
  | _ => .bad
def bAny : List D → O D
  | [.list ds] => match blsD ds with
    | some ks => .ok (.bool (ks.any id))
    | none => .bad
  | _ => .bad
theorem cf_all : CallF K c b (rAll K) bAll := fun F H xs ds Q s r q => by
  unfold bAll at q
  split at q
  · rename_i ds
    split at q
    · rename_i ks hk
      obtain ⟨x, rfl, rr⟩ := paired1 r
      have r : Rep1 K c F H x (.list ds) := rr
      obtain ⟨a, us, rfl, h1, r1⟩ := r.lst s
      rw [blsD_eq hk] at r1
      exact ⟨a, ks, rfl, by rw [← RepL.of_bls ks r1]; exact SqL.of h1, q _ _ _ (Ext.refl s) (.of (.bl _))⟩
    · exact q.elim
  · exact q.elim
theorem cf_any : CallF K c b (rAny K) bAny := fun F H xs ds Q s r q => by
  unfold bAny at q
  split at q
  · rename_i ds
    split at q
    · rename_i ks hk
      obtain ⟨x, rfl, rr⟩ := paired1 r
      have r : Rep1 K c F H x (.list ds) := rr
      obtain ⟨a, us, rfl, h1, r1⟩ := r.lst s
      rw [blsD_eq hk] at r1
      exact ⟨a, ks, rfl, by rw [← RepL.of_bls ks r1]; exact SqL.of h1, q _ _ _ (Ext.refl s) (.of (.bl _))⟩
    · exact q.elim
  · exact q.elim
/-- ints -/
def intsD : List D → Option (List Int)
  | [] => some []
  | .int k :: r => (intsD r).map (k :: ·)
  | _ => none
theorem intsD_eq : ∀ {ds : List D} {ks : List Int}, intsD ds = some ks → ds = ks.map PyData.int
  | [], ks, h => by cases h; rfl
  | .int k :: r, ks, h => by
    unfold intsD at h
    cases e : intsD r with
    | none => rw [e] at h; cases h
    | some ls =>
      rw [e] at h
      cases h
      rw [intsD_eq e]
      rfl
  | .none :: _, _, h => by cases h
  | .bool _ :: _, _, h => by cases h
  | .str _ :: _, _, h => by cases h
  | .list _ :: _, _, h => by cases h
  | .tuple _ :: _, _, h => by cases h
  | .dict _ :: _, _, h => by cases h
theorem intsD_map (ks : List Int) : intsD (ks.map PyData.int) = some ks := by
  induction ks with
  | nil => rfl
  | cons k r ih => show (intsD (r.map PyData.int)).map (k :: ·) = _; rw [ih]; rfl
theorem blsD_map (ks : List Bool) : blsD (ks.map PyData.bool) = some ks := by
  induction ks with
  | nil => rfl
  | cons k r ih => show (blsD (r.map PyData.bool)).map (k :: ·) = _; rw [ih]; rfl
def bSum : List D → O D
  | [.list ds] => match intsD ds with
    | some ks => .ok (.int ks.sum)
    | none => .bad
  | _ => .bad
theorem cf_sum : CallF K c b (rSum K) bSum := fun F H xs ds Q s r q => by
  unfold bSum at q
  split at q
  · rename_i ds
    split at q
    · rename_i ks hk
      obtain ⟨x, rfl, rr⟩ := paired1 r
      have r : Rep1 K c F H x (.list ds) := rr
      obtain ⟨a, us, rfl, h1, r1⟩ := r.lst s
      rw [intsD_eq hk] at r1
      exact ⟨a, ks, rfl, by rw [← RepL.of_ints ks r1]; exact SqL.of h1, q _ _ _ (Ext.refl s) (.of (.int _))⟩
    · exact q.elim
  · exact q.elim
def maxL (x : Int) (xs : List Int) : Int := xs.foldl max x
def minL (x : Int) (xs : List Int) : Int := xs.foldl min x
theorem maxL_spec : ∀ (xs : List Int) (x : Int), maxL x xs ∈ x :: xs ∧ ∀ y ∈ x :: xs, y ≤ maxL x xs
  | [], x => ⟨List.mem_cons_self, fun y hy => by cases hy with | head => exact Int.le_refl _ | tail _ h => cases h⟩
  | z :: r, x => by
    obtain ⟨h1, h2⟩ := maxL_spec r (max x z)
    have e : maxL x (z :: r) = maxL (max x z) r := rfl
    rw [e]
    have h3 := h2 _ List.mem_cons_self
    refine ⟨?_, fun y hy => ?_⟩
    · rcases List.mem_cons.mp h1 with q | q
      · rw [q]
        by_cases hxz : x ≤ z
        · rw [Int.max_eq_right hxz]; exact List.mem_cons_of_mem _ List.mem_cons_self
        · rw [Int.max_eq_left (by omega)]; exact List.mem_cons_self
      · exact List.mem_cons_of_mem _ (List.mem_cons_of_mem _ q)
    · rcases List.mem_cons.mp hy with rfl | hy
      · exact Int.le_trans (Int.le_max_left _ _) h3
      · rcases List.mem_cons.mp hy with rfl | hy
        · exact Int.le_trans (Int.le_max_right _ _) h3
        · exact h2 y (List.mem_cons_of_mem _ hy)
theorem minL_spec : ∀ (xs : List Int) (x : Int), minL x xs ∈ x :: xs ∧ ∀ y ∈ x :: xs, minL x xs ≤ y
  | [], x => ⟨List.mem_cons_self, fun y hy => by cases hy with | head => exact Int.le_refl _ | tail _ h => cases h⟩
  | z :: r, x => by
    obtain ⟨h1, h2⟩ := minL_spec r (min x z)
    have e : minL x (z :: r) = minL (min x z) r := rfl
    rw [e]
    have h3 := h2 _ List.mem_cons_self
    refine ⟨?_, fun y hy => ?_⟩
    · rcases List.mem_cons.mp h1 with q | q
      · rw [q]
        by_cases hxz : x ≤ z
        · rw [Int.min_eq_left hxz]; exact List.mem_cons_self
        · rw [Int.min_eq_right (by omega)]; exact List.mem_cons_of_mem _ List.mem_cons_self
      · exact List.mem_cons_of_mem _ (List.mem_cons_of_mem _ q)
    · rcases List.mem_cons.mp hy with rfl | hy
      · exact Int.le_trans h3 (Int.min_le_left _ _)
      · rcases List.mem_cons.mp hy with rfl | hy
        · exact Int.le_trans h3 (Int.min_le_right _ _)
        · exact h2 y (List.mem_cons_of_mem _ hy)
def bMax : List D → O D
  | [.list ds] => match intsD ds with
    | some (k :: ks) => .ok (.int (maxL k ks))
    | _ => .bad
  | [.int i, .int j] => .ok (.int (if j > i then j else i))
  | _ => .bad
def bMin : List D → O D
  | [.list ds] => match intsD ds with
    | some (k :: ks) => .ok (.int (minL k ks))
    | _ => .bad
  | [.int i, .int j] => .ok (.int (if j < i then j else i))
  | _ => .bad
def rMaxAll (K : PySem.W.Frag) : List V → Hp → VK → Prop := fun xs H Q => rMax K xs H Q ∨ ∃ i j, xs = [.int i, .int j] ∧ Q (.int (if j > i then j else i)) H
def rMinAll (K : PySem.W.Frag) : List V → Hp → VK → Prop := fun xs H Q => rMin K xs H Q ∨ ∃ i j, xs = [.int i, .int j] ∧ Q (.int (if j < i then j else i)) H
theorem cr_maxAll {X : Cx} (hc : X.calm = true) : CallR X (.builtin "max") (rMaxAll X.K) := (cr_max hc).or (call_max2 hc)
theorem cr_minAll {X : Cx} (hc : X.calm = true) : CallR X (.builtin "min") (rMinAll X.K) := (cr_min hc).or (call_min2 hc)
theorem cf_max : CallF K c b (rMaxAll K) bMax := fun F H xs ds Q s r q => by
  unfold bMax at q
  split at q
  · rename_i ds
    split at q
    · rename_i k ks hk
      obtain ⟨x, rfl, rr⟩ := paired1 r
      have r : Rep1 K c F H x (.list ds) := rr
      obtain ⟨a, us, rfl, h1, r1⟩ := r.lst s
      rw [intsD_eq hk] at r1
      refine .inl ⟨a, k :: ks, rfl, by rw [← RepL.of_ints _ r1]; exact SqL.of h1, Nat.succ_pos _, fun m h2 h3 => ?_⟩
      obtain ⟨h4, h5⟩ := maxL_spec ks k
      have e : m = maxL k ks := Int.le_antisymm (h5 m h2) (h3 _ h4)
      rw [e]
      exact q _ _ _ (Ext.refl s) (.of (.int _))
    · exact q.elim
  · rename_i i j
    obtain ⟨x, y, rfl, r, r'⟩ := paired2 r
    have r : Rep1 K c F H x (.int i) := r
    have r' : Rep1 K c F H y (.int j) := r'
    exact .inr ⟨i, j, by rw [r.int, r'.int], q _ _ _ (Ext.refl s) (.of (.int _))⟩
  · exact q.elim
theorem cf_min : CallF K c b (rMinAll K) bMin := fun F H xs ds Q s r q => by
  unfold bMin at q
  split at q
  · rename_i ds
    split at q
    · rename_i k ks hk
      obtain ⟨x, rfl, rr⟩ := paired1 r
      have r : Rep1 K c F H x (.list ds) := rr
      obtain ⟨a, us, rfl, h1, r1⟩ := r.lst s
      rw [intsD_eq hk] at r1
      refine .inl ⟨a, k :: ks, rfl, by rw [← RepL.of_ints _ r1]; exact SqL.of h1, Nat.succ_pos _, fun m h2 h3 => ?_⟩
      obtain ⟨h4, h5⟩ := minL_spec ks k
      have e : m = minL k ks := Int.le_antisymm (h3 _ h4) (h5 m h2)
      rw [e]
      exact q _ _ _ (Ext.refl s) (.of (.int _))
    · exact q.elim
  · rename_i i j
    obtain ⟨x, y, rfl, r, r'⟩ := paired2 r
    have r : Rep1 K c F H x (.int i) := r
    have r' : Rep1 K c F H y (.int j) := r'
    exact .inr ⟨i, j, by rw [r.int, r'.int], q _ _ _ (Ext.refl s) (.of (.int _))⟩
  · exact q.elim
def bAbs : List D → O D
  | [.int i] => .ok (.int (if i < 0 then -i else i))
  | _ => .bad
theorem cf_abs : CallF K c b (fun xs H Q => ∃ i, xs = [.int i] ∧ Q (.int (if i < 0 then -i else i)) H) bAbs := fun F H xs ds Q s r q => by
  unfold bAbs at q
  split at q
  · rename_i i
    obtain ⟨x, rfl, rr⟩ := paired1 r
    have r : Rep1 K c F H x (.int i) := rr
    exact ⟨i, by rw [r.int], q _ _ _ (Ext.refl s) (.of (.int _))⟩
  · exact q.elim
/-- int(n), int(flag), int(text) of a text that writes one -/
def rIntAll : List V → Hp → VK → Prop := fun xs H Q => ((∃ i, xs = [.int i] ∧ Q (.int i) H) ∨ ∃ k, xs = [.bl k] ∧ Q (.int (if k then 1 else 0)) H) ∨ ∃ a n, xs = [.str a] ∧ PySem.intText? a = some n ∧ a.length ≤ 640 ∧ Q (.int n) H
theorem cr_intAll {X : Cx} : CallR X (.type "int") rIntAll := call_int1.or call_int_str
def bInt : List D → O D
  | [.int i] => .ok (.int i)
  | [.bool k] => .ok (.int (if k then 1 else 0))
  | [.str a] => if a.length ≤ 640 then (match PySem.intText? a with
    | some n => .ok (.int n)
    | none => .bad) else .bad
  | _ => .bad
theorem cf_int : CallF K c b rIntAll bInt := fun F H xs ds Q s r q => by
  unfold bInt at q
  split at q
  · rename_i i
    obtain ⟨x, rfl, rr⟩ := paired1 r
    have r : Rep1 K c F H x (.int i) := rr
    exact .inl (.inl ⟨i, by rw [r.int], q _ _ _ (Ext.refl s) (.of (.int _))⟩)
  · rename_i i
    obtain ⟨x, rfl, rr⟩ := paired1 r
    have r : Rep1 K c F H x (.bool i) := rr
    exact .inl (.inr ⟨i, by rw [r.bl], q _ _ _ (Ext.refl s) (.of (.int _))⟩)
  · rename_i a
    obtain ⟨x, rfl, rr⟩ := paired1 r
    have r : Rep1 K c F H x (.str a) := rr
    split at q
    · rename_i hl
      split at q
      · rename_i n hn
        exact .inr ⟨a, n, by rw [r.str], hn, hl, q _ _ _ (Ext.refl s) (.of (.int _))⟩
      · exact q.elim
    · exact q.elim
  · exact q.elim
/-- str(n) -/
def bStr : List D → O D
  | [.int i] => if i.natAbs.log2 < 1920 then .ok (.str (toString i)) else .bad
  | _ => .bad
theorem cf_str : CallF K c b (fun xs H Q => ∃ i, xs = [.int i] ∧ i.natAbs.log2 < 1920 ∧ Q (.str (toString i)) H) bStr := fun F H xs ds Q s r q => by
  unfold bStr at q
  split at q
  · rename_i i
    obtain ⟨x, rfl, rr⟩ := paired1 r
    have r : Rep1 K c F H x (.int i) := rr
    split at q
    · rename_i hl
      exact ⟨i, by rw [r.int], hl, q _ _ _ (Ext.refl s) (.of (.str _))⟩
    · exact q.elim
  · exact q.elim
/-! ### chains of comparisons -/
def gChain (op op' : D → D → O D) (ga gb gc : Rho → O D) : Rho → O D := fun ρ => (ga ρ).bind fun d => (gb ρ).bind fun e => (noEx (op d e)).bind fun z => match z with
  | .bool k => if k = true then (gc ρ).bind fun f => noEx (op' e f) else .ok (.bool false)
  | _ => .bad
theorem noEx_bind {α β : Type} {P : β → Prop} {E : Nat → Prop} {o : O α} {f : α → O β} (h : OPost P E ((noEx o).bind f)) : OPost (fun a => OPost P E (f a)) (fun _ => False) o := by
  cases o with
  | ok a => exact h
  | ex n => exact h.elim
  | bad => exact h.elim
theorem fe_chain {r r' : R2} {op op' : D → D → O D} {ta tb tc : TE} {ga gb gc : Rho → O D} (ho : OpF K c true r op) (ho' : OpF K c b r' op') (ha : FE K c own false ta ga) (hb : FE K c own false tb gb) (hc : FE K c own false tc gc) :
    FE K c own b (tChain r r' ta tb tc) (gChain op op' ga gb gc) := fun σ H F ρ Q S q => by
  refine ha σ H F ρ _ S (OPost.imp (fun d q v H1 F1 e1 r1 => ?_) (fun _ q => q) (OPost.bind q))
  refine hb σ H1 F1 ρ _ (S.ext e1) (OPost.imp (fun e q w H2 F2 e2 r2 => ?_) (fun _ q H2 s => q H2 (e1.h.trans s)) (OPost.bind q))
  have r2 : Rep1 K c F2 H2 w e := r2
  refine ho F2 H2 v w d e _ e2.s (r1.ext e2) r2 (OPost.imp (fun z q u H3 F3 e3 r3 => ?_) (fun _ q => q) (noEx_bind q))
  split at q
  · rename_i k
    cases (show Rep K c.cls F3 u (.bool k) from r3)
    refine ⟨k, rfl, ?_⟩
    have e123 := (e1.trans e2).trans e3
    split at q
    · rename_i hk
      subst hk
      rw [if_pos rfl]
      refine hc σ H3 F3 ρ _ (S.ext e123) (OPost.imp (fun f q y H4 F4 e4 r4 => ?_) (fun _ q H2 s => q H2 (e123.h.trans s)) (OPost.bind q))
      exact ho' F4 H4 w y e f Q e4.s (r2.ext (e3.trans e4)) r4 (OPost.imp (fun z q u H5 F5 e5 r5 => q u H5 F5 ((e123.trans e4).trans e5) r5) (fun _ q => q) (noEx_post q))
    · rename_i hk
      rw [if_neg hk]
      exact q _ _ _ e123 (.of (.bl _))
  · exact q.elim
end
end Fn

set_option Elab.async false
set_option linter.all false
set_option maxRecDepth 100000
/-! Statements by data. -/
namespace Fn
open PySem PySem.Spec L2

/-- how a statement ends -/
inductive R where
  | nx (ρ : Rho) | rt (d : D) | bk (ρ : Rho) | ct (ρ : Rho) | ex (n : Nat) | bad
def R.seq : R → (Rho → R) → R
  | .nx ρ, f => f ρ
  | r, _ => r
theorem R.seq_nx (ρ : Rho) (f : Rho → R) : (R.nx ρ).seq f = f ρ := rfl
theorem R.seq_rt (d : D) (f : Rho → R) : (R.rt d).seq f = .rt d := rfl
theorem R.seq_bk (ρ : Rho) (f : Rho → R) : (R.bk ρ).seq f = .bk ρ := rfl
theorem R.seq_ct (ρ : Rho) (f : Rho → R) : (R.ct ρ).seq f = .ct ρ := rfl
theorem R.seq_ex (n : Nat) (f : Rho → R) : (R.ex n).seq f = .ex n := rfl
theorem R.seq_bad (f : Rho → R) : R.bad.seq f = .bad := rfl
/-- from an expression's outcome on -/
def O.go {α : Type} : O α → (α → R) → R
  | .ok a, f => f a
  | .ex n, _ => .ex n
  | .bad, _ => .bad
theorem O.go_ok {α : Type} (a : α) (f : α → R) : (O.ok a).go f = f a := rfl
theorem O.go_ex {α : Type} (n : Nat) (f : α → R) : (O.ex n : O α).go f = .ex n := rfl
theorem O.go_bad {α : Type} (f : α → R) : (O.bad : O α).go f = .bad := rfl

section
variable (K : PySem.W.Frag) (c : Ct)
def SPost (ol own' : List Nat) (F : Hp) (D : Ends) : R → Prop
  | .nx ρ => ∀ σ' H' F', Same F F' → Sim K c.cls c.B own' σ' H' F' ρ → D.nx σ' H'
  | .rt d => ∀ v H' F', Ext c.B.2 c.B.1 F' H' → Rep K c.cls F' v d → D.rt v H'
  | .bk ρ => ∀ σ' H' F', Same F F' → Sim K c.cls c.B ol σ' H' F' ρ → D.bk σ' H'
  | .ct ρ => ∀ σ' H' F', Same F F' → Sim K c.cls c.B ol σ' H' F' ρ → D.ct σ' H'
  | .ex n => ∀ σ' H', Same c.B.1 H' → c.W (.ref (c.xc n)) none σ' H'
  | .bad => False
def FS (ol own own' : List Nat) (t : TS) (g : Rho → R) : Prop := ∀ D σ H F ρ, Sim K c.cls c.B own σ H F ρ → SPost K c ol own' F D (g ρ) → t D σ H
end
section
variable {K : PySem.W.Frag} {c : Ct} {ol own own' own1 own2 : List Nat} {b : Bool} {F H F' H' : Hp} {σ : L2.St} {ρ : Rho} {D : Ends}
theorem SPost.mono {r : R} (h : SPost K c ol own' F D r) (s : Same F F') : SPost K c ol own' F' D r := by
  cases r with
  | nx ρ => exact fun σ' H' F2 e => h σ' H' F2 (s.trans e)
  | rt d => exact h
  | bk ρ => exact fun σ' H' F2 e => h σ' H' F2 (s.trans e)
  | ct ρ => exact fun σ' H' F2 e => h σ' H' F2 (s.trans e)
  | ex n => exact h
  | bad => exact h
/-- from an expression's outcome on -/
theorem SPost.go {α : Type} {P : α → Prop} {E : Nat → Prop} {f : α → R} : ∀ {o : O α}, SPost K c ol own' F D (o.go f) → (∀ a, SPost K c ol own' F D (f a) → P a) → (∀ n, (∀ σ' H', Same c.B.1 H' → c.W (.ref (c.xc n)) none σ' H') → E n) → OPost P E o
  | .ok a, h, h1, _ => h1 a h
  | .ex n, h, _, h2 => h2 n h
  | .bad, h, _, _ => h
def sameB (xs ys : List Nat) : Bool := xs.all ys.contains && ys.all xs.contains
theorem sameB_iff {xs ys : List Nat} (h : sameB xs ys = true) : ∀ i, i ∈ xs ↔ i ∈ ys := fun i => by
  unfold sameB at h
  rw [Bool.and_eq_true, List.all_eq_true, List.all_eq_true] at h
  exact ⟨fun z => List.contains_iff_mem.mp (h.1 i z), fun z => List.contains_iff_mem.mp (h.2 i z)⟩
def subB (xs ys : List Nat) : Bool := xs.all ys.contains
theorem subB_of {xs ys : List Nat} (h : subB xs ys = true) : ∀ i, i ∈ xs → i ∈ ys := fun i z => by
  unfold subB at h
  rw [List.all_eq_true] at h
  exact List.contains_iff_mem.mp (h i z)
/-! ### blocks -/
def gNext : Rho → R := .nx
def gSeq (g h : Rho → R) : Rho → R := fun ρ => (g ρ).seq h
theorem fs_next : FS K c ol own own tNext gNext := fun D σ H F ρ S q => q σ H F (Same.refl _) S
theorem fs_seq {t u : TS} {g h : Rho → R} (h1 : FS K c ol own own1 t g) (h2 : FS K c ol own1 own2 u h) : FS K c ol own own2 (tSeq t u) (gSeq g h) := fun D σ H F ρ S q => by
  refine h1 { D with nx := u D } σ H F ρ S ?_
  unfold gSeq at q
  cases e : g ρ with
  | nx ρ' =>
    rw [e] at q
    exact fun σ' H' F' s S' => h2 D σ' H' F' ρ' S' (SPost.mono q s)
  | rt d => rw [e] at q; exact q
  | bk ρ' => rw [e] at q; exact q
  | ct ρ' => rw [e] at q; exact q
  | ex n => rw [e] at q; exact q
  | bad => rw [e] at q; exact q
/-- some slots own no more -/
theorem fs_freeze {t : TS} {g : Rho → R} (own1 : List Nat) (h : FS K c ol own1 own' t g) (hs : subB own1 own = true) : FS K c ol own own' t g := fun D σ H F ρ S q => by
  obtain ⟨F', s, S'⟩ := S.shrink (subB_of hs)
  exact h D σ H F' ρ S' (SPost.mono q s)
theorem fs_weak {t : TS} {g : Rho → R} (own1 : List Nat) (h : FS K c ol own own1 t g) (hs : subB own' own1 = true) : FS K c ol own own' t g := fun D σ H F ρ S q => by
  refine h D σ H F ρ S ?_
  cases e : g ρ with
  | nx ρ' =>
    rw [e] at q
    exact fun σ' H' F' s S' => by
      obtain ⟨F2, s2, S2⟩ := S'.shrink (subB_of hs)
      exact q σ' H' F2 (s.trans s2) S2
  | rt d => rw [e] at q; exact q
  | bk ρ' => rw [e] at q; exact q
  | ct ρ' => rw [e] at q; exact q
  | ex n => rw [e] at q; exact q
  | bad => rw [e] at q; exact q
/-! ### if -/
def gIfS (g : Rho → O Bool) (u w : Rho → R) : Rho → R := fun ρ => (g ρ).go fun k => if k = true then u ρ else w ρ
theorem fs_if {t : TT} {u w : TS} {g : Rho → O Bool} {gu gw : Rho → R} (h : FT K c own t g) (hu : FS K c ol own own' u gu) (hw : FS K c ol own own' w gw) : FS K c ol own own' (tIfS t u w) (gIfS g gu gw) := fun D σ H F ρ S q => by
  refine h σ H F ρ _ S (SPost.go q (fun k q H1 F1 e => ?_) fun n q H1 s => q σ H1 (S.b.h.trans s))
  cases k with
  | true =>
    rw [if_pos rfl] at q ⊢
    exact hu D σ H1 F1 ρ (S.ext e) (SPost.mono q e.f)
  | false =>
    rw [if_neg Bool.false_ne_true] at q ⊢
    exact hw D σ H1 F1 ρ (S.ext e) (SPost.mono q e.f)
/-! ### names -/
def gSet (i : Nat) (g : Rho → O PyData) : Rho → R := fun ρ => (g ρ).go fun d => .nx (ρ.set i (some d))
theorem notIn_of {i : Nat} (h : own.contains i = false) : own.filter (fun j => j != i) = own := List.filter_eq_self.mpr fun j hj => by
  have : j ≠ i := fun z => by
    subst z
    rw [List.contains_iff_mem.mpr hj] at h
    cases h
  simpa using this
theorem fs_set {t : TE} {g : Rho → O PyData} {i : Nat} (h : FE K c own true t g) (hi : own.contains i = false) : FS K c ol own own (tAsg t (gName i)) (gSet i g) := fun D σ H F ρ S q => by
  refine h σ H F ρ _ S (SPost.go q (fun d q v H1 F1 e r => ?_) fun n q H1 s => q σ H1 (S.b.h.trans s))
  have S2 := (S.ext e).set i (show Rep K c.cls F1 v d from r)
  rw [notIn_of hi] at S2
  exact q _ _ _ e.f S2
/-- a slot that owned a list gets another value -/
theorem fs_setF {t : TE} {g : Rho → O PyData} {i : Nat} (h : FE K c own true t g) (hs : sameB (own.filter fun j => j != i) own' = true) : FS K c ol own own' (tAsg t (gName i)) (gSet i g) := fun D σ H F ρ S q => by
  refine h σ H F ρ _ S (SPost.go q (fun d q v H1 F1 e r => ?_) fun n q H1 s => q σ H1 (S.b.h.trans s))
  exact q _ _ _ e.f (((S.ext e).set i (show Rep K c.cls F1 v d from r)).perm (sameB_iff hs))
theorem fs_setO {t : TE} {g : Rho → O PyData} {i : Nat} (h : FO K c own t g) (hl : ∀ ρ d, g ρ = .ok d → ∃ ds, d = .list ds) (hs : sameB (i :: own.filter fun j => j != i) own' = true) : FS K c ol own own' (tAsg t (gName i)) (gSet i g) := fun D σ H F ρ S q => by
  refine h σ H F ρ _ S ?_
  unfold gSet at q
  cases hg : g ρ with
  | ok d =>
    rw [hg] at q
    obtain ⟨ds, rfl⟩ := hl ρ d hg
    refine ⟨ds, rfl, fun a xs H1 F1 e h1 h2 h3 r => ?_⟩
    refine q _ _ _ e.f (((S.ext e).setO i h1 r h2 (S.b.h.free h3) fun j x d hj hn hr hx => ?_).perm (sameB_iff hs))
    obtain ⟨a', xs', ds', _, k2, k3, _⟩ := S.ow j d hj hr
    rw [k2] at hx
    cases hx
    intro z
    rw [z, h3] at k3
    cases k3
  | ex n => rw [hg] at q; exact fun H1 s => q σ H1 (S.b.h.trans s)
  | bad => rw [hg] at q; exact q.elim
/-! ### targets -/
def FG (K : PySem.W.Frag) (c : Ct) (own : List Nat) (g : TG) (f : PyData → Rho → O Rho) : Prop := ∀ v d σ H F ρ Q, Sim K c.cls c.B own σ H F ρ → Rep K c.cls F v d → OPost (fun ρ' => ∀ σ', Sim K c.cls c.B own σ' H F ρ' → Q σ' H) (fun _ => False) (f d ρ) → g v σ H Q
def FGs (K : PySem.W.Frag) (c : Ct) (own : List Nat) (g : TGs) (f : List PyData → Rho → O Rho) : Prop := ∀ vs ds σ H F ρ Q, Sim K c.cls c.B own σ H F ρ → RepL K c.cls F vs ds → OPost (fun ρ' => ∀ σ', Sim K c.cls c.B own σ' H F ρ' → Q σ' H) (fun _ => False) (f ds ρ) → g vs σ H Q
def aName (i : Nat) : PyData → Rho → O Rho := fun d ρ => .ok (ρ.set i (some d))
def aTup (f : List PyData → Rho → O Rho) : PyData → Rho → O Rho
  | .tuple ds, ρ => f ds ρ
  | _, _ => .bad
def aNil : List PyData → Rho → O Rho
  | [], ρ => .ok ρ
  | _, _ => .bad
def aCons (f : PyData → Rho → O Rho) (fs : List PyData → Rho → O Rho) : List PyData → Rho → O Rho
  | d :: ds, ρ => (f d ρ).bind fun ρ' => fs ds ρ'
  | [], _ => .bad
theorem fg_name {i : Nat} (hi : own.contains i = false) : FG K c own (gName i) (aName i) := fun v d σ H F ρ Q S r q => by
  have S2 := S.set i r
  rw [notIn_of hi] at S2
  exact q _ S2
theorem fgs_nil : FGs K c own gNil aNil := fun vs ds σ H F ρ Q S r q => by
  unfold aNil at q
  split at q
  · cases r
    exact ⟨rfl, q _ S⟩
  · exact q.elim
theorem fgs_cons {g : TG} {gs : TGs} {f : PyData → Rho → O Rho} {fs : List PyData → Rho → O Rho} (h : FG K c own g f) (hs : FGs K c own gs fs) : FGs K c own (gCons g gs) (aCons f fs) := fun vs ds σ H F ρ Q S r q => by
  unfold aCons at q
  split at q
  · rename_i d ds
    cases r with
    | cons r t =>
      refine ⟨_, _, rfl, h _ _ σ H F ρ _ S r (OPost.imp (fun ρ' q σ' S' => ?_) (fun _ q => q) (OPost.bind q))⟩
      exact hs _ _ σ' H F ρ' Q S' t q
  · exact q.elim
theorem fg_tup {n : Nat} {gs : TGs} {fs : List PyData → Rho → O Rho} (h : FGs K c own gs fs) (hn : ∀ ds ρ, ds.length ≠ n → fs ds ρ = .bad) : FG K c own (L2.gTup K n gs) (aTup fs) := fun v d σ H F ρ Q S r q => by
  unfold aTup at q
  split at q
  · rename_i ds
    cases r with
    | tp h1 r =>
      refine ⟨_, _, rfl, Same.tup S.s h1, ?_, h _ _ σ H F ρ Q S r q⟩
      rw [r.length]
      by_cases e : ds.length = n
      · exact e
      · rw [hn ds ρ e] at q
        exact q.elim
  · exact q.elim
theorem aNil_len : ∀ ds ρ, ds.length ≠ 0 → aNil ds ρ = .bad := fun ds ρ h => by
  cases ds with
  | nil => exact absurd rfl h
  | cons d ds => rfl
theorem aCons_len {n : Nat} {f : PyData → Rho → O Rho} {fs : List PyData → Rho → O Rho} (h : ∀ ds ρ, ds.length ≠ n → fs ds ρ = .bad) (hx : ∀ d ρ k, f d ρ ≠ .ex k) : ∀ ds ρ, ds.length ≠ n + 1 → aCons f fs ds ρ = .bad := fun ds ρ hn => by
  cases ds with
  | nil => rfl
  | cons d ds =>
    have h' := fun ρ' => h ds ρ' (fun z => hn (by rw [List.length_cons, z]))
    show (f d ρ).bind _ = _
    cases e : f d ρ with
    | ok ρ' => exact h' ρ'
    | ex k => exact absurd e (hx d ρ k)
    | bad => rfl
theorem aName_ex {i : Nat} : ∀ d ρ k, aName i d ρ ≠ .ex k := fun d ρ k h => by cases h
theorem aNil_ex : ∀ ds ρ k, aNil ds ρ ≠ .ex k := fun ds ρ k h => by cases ds <;> cases h
theorem aCons_ex {f : PyData → Rho → O Rho} {fs : List PyData → Rho → O Rho} (h : ∀ d ρ k, f d ρ ≠ .ex k) (hs : ∀ ds ρ k, fs ds ρ ≠ .ex k) : ∀ ds ρ k, aCons f fs ds ρ ≠ .ex k := fun ds ρ k e => by
  cases ds with
  | nil => cases e
  | cons d ds =>
    have e : (f d ρ).bind _ = .ex k := e
    cases e2 : f d ρ with
    | ok ρ' => rw [e2] at e; exact hs ds ρ' k e
    | ex n => exact h d ρ n e2
    | bad => rw [e2] at e; cases e
theorem aTup_ex {fs : List PyData → Rho → O Rho} (hs : ∀ ds ρ k, fs ds ρ ≠ .ex k) : ∀ d ρ k, aTup fs d ρ ≠ .ex k := fun d ρ k e => by
  unfold aTup at e
  split at e
  · exact hs _ _ _ e
  · cases e
def gAsg (f : PyData → Rho → O Rho) (g : Rho → O PyData) : Rho → R := fun ρ => (g ρ).go fun d => (f d ρ).go .nx
theorem fs_asg {t : TE} {g : Rho → O PyData} {tg : TG} {f : PyData → Rho → O Rho} (h : FE K c own true t g) (hg : FG K c own tg f) (hx : ∀ d ρ k, f d ρ ≠ .ex k) : FS K c ol own own (tAsg t tg) (gAsg f g) := fun D σ H F ρ S q => by
  refine h σ H F ρ _ S (SPost.go q (fun d q v H1 F1 e r => ?_) fun n q H1 s => q σ H1 (S.b.h.trans s))
  refine hg v d σ H1 F1 ρ _ (S.ext e) r ?_
  cases ho : f d ρ with
  | ok ρ' =>
    rw [ho] at q
    exact fun σ' S' => q σ' H1 F1 e.f S'
  | ex k => exact absurd ho (hx d ρ k)
  | bad => rw [ho] at q; exact q.elim
/-! ### expressions as statements, return -/
def gDrop (g : Rho → O PyData) : Rho → R := fun ρ => (g ρ).go fun _ => .nx ρ
theorem fs_drop {t : TE} {g : Rho → O PyData} (h : FE K c own false t g) : FS K c ol own own (tDrop t) (gDrop g) := fun D σ H F ρ S q => by
  refine h σ H F ρ _ S (SPost.go q (fun d q v H1 F1 e r => ?_) fun n q H1 s => q σ H1 (S.b.h.trans s))
  exact q σ H1 F1 e.f (S.ext e)
def gRet (g : Rho → O PyData) : Rho → R := fun ρ => (g ρ).go .rt
theorem fs_ret {t : TE} {g : Rho → O PyData} (h : FE K c [] true t g) : FS K c ol own own' (tRet t) (gRet g) := fun D σ H F ρ S q => by
  obtain ⟨F', s, S'⟩ := S.shrink (own' := []) (fun i z => absurd z List.not_mem_nil)
  refine h σ H F' ρ _ S' (SPost.go (SPost.mono q s) (fun d q v H1 F1 e r => ?_) fun n q H1 s => q σ H1 (S.b.h.trans s))
  exact q v H1 F1 ((S'.ext e).b) r
def gRetN : Rho → R := fun _ => .rt .none
theorem fs_retN : FS K c ol own own' tRetN gRetN := fun D σ H F ρ S q => q .non H F S.b .non
def gBreak : Rho → R := .bk
def gCont : Rho → R := .ct
theorem fs_break (hs : subB ol own = true) : FS K c ol own own' tBreak gBreak := fun D σ H F ρ S q => by
  obtain ⟨F', s, S'⟩ := S.shrink (subB_of hs)
  exact q σ H F' s S'
theorem fs_cont (hs : subB ol own = true) : FS K c ol own own' tCont gCont := fun D σ H F ρ S q => by
  obtain ⟨F', s, S'⟩ := S.shrink (subB_of hs)
  exact q σ H F' s S'
def gRaise (n : Nat) : Rho → R := fun _ => .ex n
theorem fs_raise {n : Nat} {C : Addr} {W : WX} (hW : c.W = W) (hn : c.xc n = C) : FS K c ol own own' (fun _ σ H => W (.ref C) none σ H) (gRaise n) := fun D σ H F ρ S q => by
  subst hW hn
  exact q σ H S.b.h
/-! ### lists that change -/
def lsAt (i : Nat) (ρ : Rho) : O (List PyData) := match ρ[i]? with
  | some (some (.list ds)) => .ok ds
  | _ => .bad
theorem lsAt_ok {i : Nat} {ds : List PyData} (h : lsAt i ρ = .ok ds) : ρ[i]? = some (some (.list ds)) := by
  unfold lsAt at h
  split at h
  · rename_i e; cases h; exact e
  · cases h
theorem lsAt_ex {i n : Nat} (h : lsAt i ρ = .ex n) : False := by
  unfold lsAt at h
  split at h <;> cases h
def gAppend (i : Nat) (g : Rho → O PyData) : Rho → R := fun ρ => (lsAt i ρ).go fun _ => (g ρ).go fun d => (lsAt i ρ).go fun ds => if ds.length < lim then .nx (ρ.set i (some (.list (ds ++ [d])))) else .bad
theorem SPost.ls {i : Nat} {f : List PyData → R} (h : SPost K c ol own' F D ((lsAt i ρ).go f)) : ∃ ds, ρ[i]? = some (some (.list ds)) ∧ SPost K c ol own' F D (f ds) := by
  cases e : lsAt i ρ with
  | ok ds => rw [e] at h; exact ⟨ds, lsAt_ok e, h⟩
  | ex n => exact (lsAt_ex e).elim
  | bad => rw [e] at h; exact h.elim
theorem fs_append {i : Nat} {t : TE} {g : Rho → O PyData} (h : FE K c own true t g) (hi : own.contains i = true) : FS K c ol own own (tDrop (tBM K "list" rAppend (tVar i) (tCons t tNil))) (gAppend i g) := fun D σ H F ρ S q => by
  have hi' := List.contains_iff_mem.mp hi
  obtain ⟨ds0, e0, q⟩ := SPost.ls q
  obtain ⟨a0, xs0, k1, k2, k3, k4⟩ := S.mut hi' e0
  refine ⟨_, k1, .inl ⟨rfl, xs0, SqL.of k2⟩, ?_⟩
  refine h σ H F ρ _ S (SPost.go q (fun d q v H1 F1 e r => ?_) fun n q H1 s => q σ H1 (S.b.h.trans s))
  obtain ⟨ds, e1, q⟩ := SPost.ls q
  rw [e0] at e1
  cases e1
  obtain ⟨a, xs, m1, m2, m3, m4⟩ := (S.ext e).mut hi' e0
  rw [k1] at m1
  cases m1
  split at q
  · rename_i hl
    refine ⟨a0, xs, v, rfl, rfl, m2, by rw [m3.length]; exact lt_lim hl, ?_⟩
    exact q σ _ F1 e.f (m4 _ _ (m3.append (.cons r .nil)))
  · exact q.elim
def gExtend (i : Nat) (g : Rho → O PyData) : Rho → R := fun ρ => (lsAt i ρ).go fun _ => (g ρ).go fun d => match d with
  | .list es => (lsAt i ρ).go fun ds => if ds.length + es.length ≤ lim then .nx (ρ.set i (some (.list (ds ++ es)))) else .bad
  | _ => .bad
theorem fs_extend {i : Nat} {t : TE} {g : Rho → O PyData} (h : FE K c own false t g) (hi : own.contains i = true) : FS K c ol own own (tDrop (tBM K "list" rExtend (tVar i) (tCons t tNil))) (gExtend i g) := fun D σ H F ρ S q => by
  have hi' := List.contains_iff_mem.mp hi
  obtain ⟨ds0, e0, q⟩ := SPost.ls q
  obtain ⟨a0, xs0, k1, k2, k3, k4⟩ := S.mut hi' e0
  refine ⟨_, k1, .inl ⟨rfl, xs0, SqL.of k2⟩, ?_⟩
  refine h σ H F ρ _ S (SPost.go q (fun d q v H1 F1 e r => ?_) fun n q H1 s => q σ H1 (S.b.h.trans s))
  split at q
  · rename_i es
    have r : Rep1 K c F1 H1 v (.list es) := r
    obtain ⟨ds, e1, q⟩ := SPost.ls q
    rw [e0] at e1
    cases e1
    obtain ⟨a, xs, m1, m2, m3, m4⟩ := (S.ext e).mut hi' e0
    rw [k1] at m1
    cases m1
    split at q
    · rename_i hl
      obtain ⟨a2, ys, rfl, n2, n3⟩ := r.lst e.s
      refine ⟨a0, a2, xs, ys, rfl, rfl, m2, n2, by rw [m3.length, n3.length]; exact le_lim hl, ?_⟩
      exact q σ _ F1 e.f (m4 _ _ (m3.append n3))
    · exact q.elim
  · exact q.elim
def gClear (i : Nat) : Rho → R := fun ρ => (lsAt i ρ).go fun _ => .nx (ρ.set i (some (.list [])))
theorem fs_clear {i : Nat} (hi : own.contains i = true) : FS K c ol own own (tDrop (tBM0 K "list" rClear (tVar i))) (gClear i) := fun D σ H F ρ S q => by
  obtain ⟨ds0, e0, q⟩ := SPost.ls q
  obtain ⟨a0, xs0, k1, k2, k3, k4⟩ := S.mut (List.contains_iff_mem.mp hi) e0
  exact ⟨_, k1, .inl ⟨rfl, xs0, SqL.of k2⟩, a0, xs0, rfl, rfl, k2, q σ _ F (Same.refl _) (k4 _ _ .nil)⟩
/-- x = xs.pop() -/
def gPopSet (j i : Nat) : Rho → R := fun ρ => (lsAt i ρ).go fun ds => match ds[ds.length - 1]? with
  | some d => .nx ((ρ.set i (some (.list ds.dropLast))).set j (some d))
  | none => .bad
theorem RepL.dropLast {xs : List V} {ds : List PyData} (h : RepL K c.cls F xs ds) : RepL K c.cls F xs.dropLast ds.dropLast := by
  rw [List.dropLast_eq_take, List.dropLast_eq_take, h.length]
  exact RepL.take _ h
theorem fs_popSet {i j : Nat} (hi : own.contains i = true) (hj : own.contains j = false) : FS K c ol own own (tAsg (tBM0 K "list" rPop (tVar i)) (gName j)) (gPopSet j i) := fun D σ H F ρ S q => by
  obtain ⟨ds0, e0, q⟩ := SPost.ls q
  obtain ⟨a0, xs0, k1, k2, k3, k4⟩ := S.mut (List.contains_iff_mem.mp hi) e0
  split at q
  · rename_i d hd
    obtain ⟨v, h1, h2⟩ := k3.get hd
    refine ⟨_, k1, .inl ⟨rfl, xs0, SqL.of k2⟩, a0, xs0, v, rfl, rfl, k2, by rw [k3.length]; exact h1, ?_⟩
    have S2 := (k4 _ _ k3.dropLast).set j h2
    rw [notIn_of hj] at S2
    exact q _ _ _ (Same.refl _) S2
  · exact q.elim
/-- xs[k] = e -/
def gSetIx (i : Nat) (gi g : Rho → O PyData) : Rho → R := fun ρ => (g ρ).go fun d => (lsAt i ρ).go fun _ => (gi ρ).go fun k => match k with
  | .int k => (lsAt i ρ).go fun ds => match ixN ds.length k with
    | some j => .nx (ρ.set i (some (.list (ds.set j d))))
    | none => .bad
  | _ => .bad
theorem fs_setIx {i : Nat} {t ti : TE} {g gi : Rho → O PyData} (h : FE K c own true t g) (hk : FE K c own false ti gi) (hi : own.contains i = true) : FS K c ol own own (tAsg t (gSub (tVar i) ti rSetL)) (gSetIx i gi g) := fun D σ H F ρ S q => by
  have hi' := List.contains_iff_mem.mp hi
  refine h σ H F ρ _ S (SPost.go q (fun d q v H1 F1 e r => ?_) fun n q H1 s => q σ H1 (S.b.h.trans s))
  have S1 := S.ext e
  obtain ⟨ds0, e0, q⟩ := SPost.ls q
  obtain ⟨a0, xs0, k1, k2, k3, k4⟩ := S1.mut hi' e0
  refine ⟨_, k1, ?_⟩
  refine hk σ H1 F1 ρ _ S1 (SPost.go q (fun k q w H2 F2 e2 r2 => ?_) fun n q H1 s => q σ H1 (S1.b.h.trans s))
  split at q
  · rename_i k
    have r2 : Rep1 K c F2 H2 w (.int k) := r2
    obtain ⟨ds, e1, q⟩ := SPost.ls q
    rw [e0] at e1
    cases e1
    obtain ⟨a, xs, m1, m2, m3, m4⟩ := (S1.ext e2).mut hi' e0
    rw [k1] at m1
    cases m1
    split at q
    · rename_i j hj
      refine ⟨a0, xs, k, j, rfl, r2.int, m2, by rw [m3.length]; exact hj, ?_⟩
      have r : Rep K c.cls F1 v d := r
      exact q σ _ F2 (e.f.trans e2.f) (m4 _ _ (m3.set j (r.mono e2.f)))
    · exact q.elim
  · exact q.elim
/-- x += e of whole numbers -/
def gAugI (f : Int → Int → Int) (i : Nat) (g : Rho → O PyData) : Rho → R := fun ρ => match ρ[i]? with
  | some (some (.int k)) => (g ρ).go fun d => match d with
    | .int m => .nx (ρ.set i (some (.int (f k m))))
    | _ => .bad
  | _ => .bad
theorem fs_augI {f : Int → Int → Int} {i : Nat} {t : TE} {g : Rho → O PyData} (h : FE K c own false t g) (hi : own.contains i = false) : FS K c ol own own (tAug i t (ipI f)) (gAugI f i g) := fun D σ H F ρ S q => by
  unfold gAugI at q
  split at q
  · rename_i k e0
    obtain ⟨v, h1, h2⟩ := S.fro i _ (fun z => by rw [List.contains_iff_mem.mpr z] at hi; cases hi) e0
    cases h2
    refine ⟨_, h1, ?_⟩
    refine h σ H F ρ _ S (SPost.go q (fun d q w H1 F1 e r => ?_) fun n q H1 s => q σ H1 (S.b.h.trans s))
    split at q
    · rename_i m
      have r : Rep1 K c F1 H1 w (.int m) := r
      refine ⟨k, m, rfl, r.int, ?_⟩
      have S2 := (S.ext e).set i (show Rep K c.cls F1 (V.int (f k m)) (.int (f k m)) from .int _)
      rw [notIn_of hi] at S2
      exact q _ _ _ e.f S2
    · exact q.elim
  · exact q.elim
/-! ### what is walked -/
def ItOk (K : PySem.W.Frag) (c : Ct) (J : It) (F0 : Hp) (ds : List PyData) : Prop := ∀ F H, Same F0 F → Same F H → ∀ i,
  (i < ds.length → J.go i H) ∧ (i = ds.length → J.stop i H) ∧ ∀ x H' d, ds[i]? = some d → J.yld i H x H' → ∃ F', Ext F H F' H' ∧ Rep K c.cls F' x d
def FI (K : PySem.W.Frag) (c : Ct) (own : List Nat) (t : TI) (g : Rho → O (List PyData)) : Prop := ∀ σ H F ρ R, Sim K c.cls c.B own σ H F ρ →
  OPost (fun ds => ∀ J H' F', Ext F H F' H' → ItOk K c J F' ds → R J H') (fun n => ∀ H', Same H H' → c.W (.ref (c.xc n)) none σ H') (g ρ) → t σ H R
def itemsL : PyData → O (List PyData)
  | .list ds => .ok ds
  | _ => .bad
def itemsT : PyData → O (List PyData)
  | .tuple ds => .ok ds
  | _ => .bad
def gItL (g : Rho → O PyData) : Rho → O (List PyData) := fun ρ => (g ρ).bind itemsL
def gItT (g : Rho → O PyData) : Rho → O (List PyData) := fun ρ => (g ρ).bind itemsT
theorem fi_list {t : TE} {g : Rho → O PyData} (h : FE K c own true t g) : FI K c own (iList K t) (gItL g) := fun σ H F ρ R S q => by
  refine h σ H F ρ _ S (OPost.imp (fun d q v H1 F1 e r => ?_) (fun _ q => q) (OPost.bind q))
  unfold itemsL at q
  split at q
  · rename_i ds
    cases (show Rep K c.cls F1 v (.list ds) from r) with
    | @ls a xs _ h1 r1 =>
      refine ⟨a, rfl, ⟨xs, e.s.seq (SqL.of h1)⟩, q _ _ _ e fun F2 H2 s1 s2 i => ?_⟩
      have sq : SqL K H2 a xs := s2.seq (s1.seq (SqL.of h1))
      refine ⟨fun hi => ?_, fun hi => ⟨xs, sq, by rw [r1.length, hi]; exact Nat.le_refl _⟩, fun x H' d hd y => ?_⟩
      · have hi' : i < xs.length := by rw [r1.length]; exact hi
        exact ⟨xs, xs[i], sq, List.getElem?_eq_getElem hi'⟩
      · obtain ⟨rfl, y⟩ := y
        obtain ⟨v, h2, h3⟩ := r1.get hd
        have hx := y xs sq
        rw [h2] at hx
        cases hx
        exact ⟨F2, Ext.refl s2, h3.mono s1⟩
  · exact q.elim
theorem fi_tup {t : TE} {g : Rho → O PyData} (h : FE K c own false t g) : FI K c own (iTup K t) (gItT g) := fun σ H F ρ R S q => by
  refine h σ H F ρ _ S (OPost.imp (fun d q v H1 F1 e r => ?_) (fun _ q => q) (OPost.bind q))
  unfold itemsT at q
  split at q
  · rename_i ds
    have r : Rep1 K c F1 H1 v (.tuple ds) := r
    obtain ⟨_, _, _, _, _, rr⟩ := r.tup e.s
    cases rr with
    | @tp a xs _ h1 r1 =>
      refine ⟨a, rfl, ⟨xs, Same.tup e.s h1⟩, q _ _ _ e fun F2 H2 s1 s2 i => ?_⟩
      have sq : SqT K H2 a xs := Same.tup s2 (Same.tup s1 h1)
      refine ⟨fun hi => ?_, fun hi => ⟨xs, sq, by rw [r1.length, hi]; exact Nat.le_refl _⟩, fun x H' d hd y => ?_⟩
      · have hi' : i < xs.length := by rw [r1.length]; exact hi
        exact ⟨xs, xs[i], sq, List.getElem?_eq_getElem hi'⟩
      · obtain ⟨rfl, y⟩ := y
        obtain ⟨v, h2, h3⟩ := r1.get hd
        have hx := y xs sq
        rw [h2] at hx
        cases hx
        exact ⟨F2, Ext.refl s2, h3.mono s1⟩
  · exact q.elim
def rangeD (lo : Int) (n : Nat) : List PyData := (List.range n).map fun (i : Nat) => PyData.int (lo + i)
theorem rangeD_length (lo : Int) (n : Nat) : (rangeD lo n).length = n := by unfold rangeD; simp
theorem rangeD_get {lo : Int} {n i : Nat} {d : PyData} (h : (rangeD lo n)[i]? = some d) : d = .int (lo + i) := by
  unfold rangeD at h
  rw [List.getElem?_map] at h
  cases e : (List.range n)[i]? with
  | none => rw [e] at h; cases h
  | some j =>
    rw [e] at h
    have hj := List.getElem?_eq_some_iff.mp e
    obtain ⟨h1, h2⟩ := hj
    rw [List.getElem_range] at h2
    subst h2
    have := Option.some.inj h
    exact this.symm
def rng1 : List PyData → O (List PyData)
  | [.int j] => if -(lim : Int) ≤ j ∧ j ≤ lim then .ok (rangeD 0 j.toNat) else .bad
  | _ => .bad
def rng2 : List PyData → O (List PyData)
  | [.int i, .int j] => if -(lim : Int) ≤ i ∧ i ≤ lim ∧ -(lim : Int) ≤ j ∧ j ≤ lim then .ok (rangeD i (j - i).toNat) else .bad
  | _ => .bad
def gRng1 (g : Rho → O (List PyData)) : Rho → O (List PyData) := fun ρ => (g ρ).bind rng1
def gRng2 (g : Rho → O (List PyData)) : Rho → O (List PyData) := fun ρ => (g ρ).bind rng2
theorem it_range (lo : Int) (n : Nat) (F0 : Hp) : ItOk K c (Itr lo n) F0 (rangeD lo n) := fun F2 H2 s1 s2 i => by
  refine ⟨fun hi => by rw [rangeD_length] at hi; exact hi, fun hi => by rw [rangeD_length] at hi; exact Nat.le_of_eq hi.symm, fun x H' d hd y => ?_⟩
  obtain ⟨rfl, rfl⟩ := y
  rw [rangeD_get hd]
  exact ⟨F2, Ext.refl s2, .int _⟩
theorem fi_range1 {t : TA} {g : Rho → O (List PyData)} (h : FA K c own false t g) : FI K c own (iRng1 t) (gRng1 g) := fun σ H F ρ R S q => by
  refine h σ H F ρ _ S (OPost.imp (fun d q v H1 F1 e r => ?_) (fun _ q => q) (OPost.bind q))
  unfold rng1 at q
  split at q
  · rename_i j
    obtain ⟨x, rfl, rr⟩ := paired1 (show Paired (Rep1 K c F1 H1) v [PyData.int j] from r)
    have rr : Rep1 K c F1 H1 x (.int j) := rr
    split at q
    · rename_i hj
      unfold lim at hj
      exact ⟨j, by rw [rr.int], by omega, by omega, q _ _ _ e (it_range 0 j.toNat F1)⟩
    · exact q.elim
  · exact q.elim
theorem fi_range2 {t : TA} {g : Rho → O (List PyData)} (h : FA K c own false t g) : FI K c own (iRng2 t) (gRng2 g) := fun σ H F ρ R S q => by
  refine h σ H F ρ _ S (OPost.imp (fun d q v H1 F1 e r => ?_) (fun _ q => q) (OPost.bind q))
  unfold rng2 at q
  split at q
  · rename_i i j
    obtain ⟨x, y, rfl, rx, ry⟩ := paired2 (show Paired (Rep1 K c F1 H1) v [PyData.int i, PyData.int j] from r)
    have rx : Rep1 K c F1 H1 x (.int i) := rx
    have ry : Rep1 K c F1 H1 y (.int j) := ry
    split at q
    · rename_i hj
      unfold lim at hj
      exact ⟨i, j, by rw [rx.int, ry.int], by omega, q _ _ _ e (it_range i (j - i).toNat F1)⟩
    · exact q.elim
  · exact q.elim
def enumD (ds : List PyData) : List PyData := ds.mapIdx fun i d => .tuple [.int (i : Nat), d]
def zipD (ds es : List PyData) : List PyData := List.zipWith (fun d e => PyData.tuple [d, e]) ds es
def enumI : List PyData → O (List PyData)
  | [.list ds] => .ok (enumD ds)
  | _ => .bad
def zipI : List PyData → O (List PyData)
  | [.list ds, .list es] => .ok (zipD ds es)
  | _ => .bad
def gEnum (g : Rho → O (List PyData)) : Rho → O (List PyData) := fun ρ => (g ρ).bind enumI
def gZip (g : Rho → O (List PyData)) : Rho → O (List PyData) := fun ρ => (g ρ).bind zipI
theorem fi_enum {t : TA} {g : Rho → O (List PyData)} (h : FA K c own true t g) : FI K c own (iEnum K t) (gEnum g) := fun σ H F ρ R S q => by
  refine h σ H F ρ _ S (OPost.imp (fun d q v H1 F1 e r => ?_) (fun _ q => q) (OPost.bind q))
  unfold enumI at q
  split at q
  · rename_i ds
    have r : RepL K c.cls F1 v [.list ds] := r
    cases r with
    | cons ra t0 =>
      cases t0
      cases ra with
      | @ls a xs _ h1 r1 =>
        refine ⟨a, xs, rfl, e.s.seq (SqL.of h1), q _ _ _ e fun F2 H2 s1 s2 i => ?_⟩
        have sq : SqL K H2 a xs := s2.seq (s1.seq (SqL.of h1))
        have le : (enumD ds).length = xs.length := by unfold enumD; rw [List.length_mapIdx, r1.length]
        refine ⟨fun hi => ?_, fun hi => ⟨xs, sq, by rw [← le, hi]; exact Nat.le_refl _⟩, fun x H' d hd y => ?_⟩
        · have hi' : i < xs.length := by rw [← le]; exact hi
          exact ⟨xs, xs[i], sq, List.getElem?_eq_getElem hi'⟩
        · obtain ⟨T, u, rfl, hT, rfl, y⟩ := y
          unfold enumD at hd
          rw [List.getElem?_mapIdx] at hd
          cases hq : ds[i]? with
          | none => rw [hq] at hd; cases hd
          | some d0 =>
            rw [hq] at hd
            cases hd
            obtain ⟨w, h2, h3⟩ := r1.get hq
            have hx := y xs sq
            rw [h2] at hx
            cases hx
            exact ⟨_, Ext.new s2 hT, .tp (SqT.of upd_same) (.cons (.int _) (.cons ((h3.mono s1).mono (same_upd (s2.free hT))) .nil))⟩
  · exact q.elim
theorem fi_zip {t : TA} {g : Rho → O (List PyData)} (h : FA K c own true t g) : FI K c own (iZip K t) (gZip g) := fun σ H F ρ R S q => by
  refine h σ H F ρ _ S (OPost.imp (fun d q v H1 F1 e r => ?_) (fun _ q => q) (OPost.bind q))
  unfold zipI at q
  split at q
  · rename_i ds es
    have r : RepL K c.cls F1 v [.list ds, .list es] := r
    cases r with
    | cons ra t0 =>
      cases t0 with
      | cons rb t1 =>
        cases t1
        cases ra with
        | @ls a xs _ h1 r1 =>
          cases rb with
          | @ls a' ys _ h1' r1' =>
            refine ⟨a, a', xs, ys, rfl, e.s.seq (SqL.of h1), e.s.seq (SqL.of h1'), q _ _ _ e fun F2 H2 s1 s2 i => ?_⟩
            have sq : SqL K H2 a xs := s2.seq (s1.seq (SqL.of h1))
            have sq' : SqL K H2 a' ys := s2.seq (s1.seq (SqL.of h1'))
            have le : (zipD ds es).length = min xs.length ys.length := by unfold zipD; rw [List.length_zipWith, r1.length, r1'.length]
            refine ⟨fun hi => ?_, fun hi => ⟨xs, ys, sq, sq', ?_⟩, fun x H' d hd y => ?_⟩
            · rw [le] at hi
              have hx : i < xs.length := Nat.lt_of_lt_of_le hi (Nat.min_le_left _ _)
              have hy : i < ys.length := Nat.lt_of_lt_of_le hi (Nat.min_le_right _ _)
              exact ⟨xs, ys, xs[i], ys[i], sq, sq', List.getElem?_eq_getElem hx, List.getElem?_eq_getElem hy⟩
            · rw [le] at hi
              by_cases z : xs.length ≤ ys.length
              · rw [Nat.min_eq_left z] at hi; exact .inl (Nat.le_of_eq hi.symm)
              · rw [Nat.min_eq_right (by omega)] at hi; exact .inr (Nat.le_of_eq hi.symm)
            · obtain ⟨T, u, u', rfl, hT, rfl, y1, y2⟩ := y
              unfold zipD at hd
              rw [List.getElem?_zipWith] at hd
              cases hq : ds[i]? with
              | none => rw [hq] at hd; cases hd
              | some d0 =>
                cases hq' : es[i]? with
                | none => rw [hq, hq'] at hd; cases hd
                | some e0 =>
                  rw [hq, hq'] at hd
                  cases hd
                  obtain ⟨w, h2, h3⟩ := r1.get hq
                  obtain ⟨w', h2', h3'⟩ := r1'.get hq'
                  have hx := y1 xs sq
                  rw [h2] at hx
                  cases hx
                  have hx' := y2 ys sq'
                  rw [h2'] at hx'
                  cases hx'
                  exact ⟨_, Ext.new s2 hT, .tp (SqT.of upd_same) (.cons ((h3.mono s1).mono (same_upd (s2.free hT))) (.cons ((h3'.mono s1).mono (same_upd (s2.free hT))) .nil))⟩
  · exact q.elim
def strItems (z : Str) : List PyData := z.cps.toList.map fun x => .str ⟨#[x]⟩
def itemsS : PyData → O (List PyData)
  | .str z => .ok (strItems z)
  | _ => .bad
def gItS (g : Rho → O PyData) : Rho → O (List PyData) := fun ρ => (g ρ).bind itemsS
theorem fi_str {t : TE} {g : Rho → O PyData} (h : FE K c own false t g) : FI K c own (iStr t) (gItS g) := fun σ H F ρ R S q => by
  refine h σ H F ρ _ S (OPost.imp (fun d q v H1 F1 e r => ?_) (fun _ q => q) (OPost.bind q))
  unfold itemsS at q
  split at q
  · rename_i z
    have r : Rep1 K c F1 H1 v (.str z) := r
    refine ⟨z, r.str, q _ _ _ e fun F2 H2 s1 s2 i => ?_⟩
    have le : (strItems z).length = z.cps.size := by unfold strItems; simp
    refine ⟨fun hi => by rw [le] at hi; exact hi, fun hi => by rw [le] at hi; exact Nat.le_of_eq hi.symm, fun x H' d hd y => ?_⟩
    obtain ⟨rfl, k, hk, rfl⟩ := y
    unfold strItems at hd
    rw [List.getElem?_map, Array.getElem?_toList, hk] at hd
    cases hd
    exact ⟨F2, Ext.refl s2, .str _⟩
  · exact q.elim
/-- a list, a tuple, a text -/
def iAny (K : PySem.W.Frag) (t : TE) : TI := fun σ H R => iList K t σ H R ∨ iTup K t σ H R ∨ iStr t σ H R
theorem PI.or {X : Cx} {tg e : Expr} {w1 w2 : TI} (h1 : PI X tg e w1) (h2 : PI X tg e w2) : PI X tg e (fun σ H R => w1 σ H R ∨ w2 σ H R) := ⟨fun pins s σ H R I h => h.elim (h1.run pins s σ H R I) (h2.run pins s σ H R I)⟩
theorem pi_any {X : Cx} {tg e : Expr} {t : TE} (h : PE X e t) : PI X tg e (iAny X.K t) := PI.or (pi_list h) (PI.or (pi_tup h) (pi_str h))
def itemsA : PyData → O (List PyData)
  | .list ds => .ok ds
  | .tuple ds => .ok ds
  | .str z => .ok (strItems z)
  | _ => .bad
def gItA (g : Rho → O PyData) : Rho → O (List PyData) := fun ρ => (g ρ).bind itemsA
theorem fi_any {t : TE} {g : Rho → O PyData} (h : FE K c own true t g) : FI K c own (iAny K t) (gItA g) := fun σ H F ρ R S q => by
  unfold gItA at q
  cases hg : g ρ with
  | ok d =>
    rw [hg, O.bind_ok] at q
    cases d with
    | list ds =>
      refine .inl (fi_list h σ H F ρ R S ?_)
      unfold gItL
      rw [hg]
      exact q
    | tuple ds =>
      refine .inr (.inl (fi_tup h.weak σ H F ρ R S ?_))
      unfold gItT
      rw [hg]
      exact q
    | str z =>
      refine .inr (.inr (fi_str h.weak σ H F ρ R S ?_))
      unfold gItS
      rw [hg]
      exact q
    | none => exact q.elim
    | bool _ => exact q.elim
    | int _ => exact q.elim
    | dict _ => exact q.elim
  | ex n =>
    refine .inl (fi_list h σ H F ρ R S ?_)
    unfold gItL
    rw [hg] at q ⊢
    exact q
  | bad => rw [hg] at q; exact q.elim
/-! ### for -/
def forL (f : PyData → Rho → O Rho) (body : Rho → R) : List PyData → Rho → R
  | [], ρ => .nx ρ
  | d :: ds, ρ => (f d ρ).go fun ρ1 => match body ρ1 with
    | .nx ρ2 => forL f body ds ρ2
    | .ct ρ2 => forL f body ds ρ2
    | .bk ρ2 => .nx ρ2
    | .rt e => .rt e
    | .ex n => .ex n
    | .bad => .bad
def gFor (f : PyData → Rho → O Rho) (gi : Rho → O (List PyData)) (body : Rho → R) : Rho → R := fun ρ => (gi ρ).go fun ds => forL f body ds ρ
theorem fs_for {wi : TI} {tg : TG} {tb : TS} {gi : Rho → O (List PyData)} {f : PyData → Rho → O Rho} {body : Rho → R} (hi : FI K c own wi gi) (hg : FG K c own tg f) (hx : ∀ d ρ k, f d ρ ≠ .ex k) (hb : FS K c own own own tb body) :
    FS K c ol own own (tFor wi tg tb) (gFor f gi body) := fun D σ H F ρ S q => by
  refine hi σ H F ρ _ S (SPost.go q (fun ds q J H1 F1 e it => ?_) fun n q H1 s => q σ H1 (S.b.h.trans s))
  refine ⟨fun i m σ2 H2 => m = ds.length - i ∧ i ≤ ds.length ∧ ∃ F2 ρ2, Same F1 F2 ∧ Sim K c.cls c.B own σ2 H2 F2 ρ2 ∧ SPost K c ol own F2 D (forL f body (ds.drop i) ρ2),
    ⟨ds.length, by omega, Nat.zero_le _, F1, ρ, Same.refl _, S.ext e, SPost.mono q e.f⟩, ?_⟩
  rintro i m σ2 H2 ⟨rfl, hle, F2, ρ2, s12, S2, q2⟩
  obtain ⟨i1, i2, i3⟩ := it F2 H2 s12 S2.s i
  by_cases hlt : i < ds.length
  · refine .inr ⟨i1 hlt, fun σ3 H3 => ∃ F3 ρ3, Same F1 F3 ∧ Sim K c.cls c.B own σ3 H3 F3 ρ3 ∧ SPost K c ol own F3 D (forL f body (ds.drop (i + 1)) ρ3), fun σ3 H3 z => ⟨ds.length - (i + 1), by omega, rfl, hlt, z⟩, fun x H3 y => ?_⟩
    obtain ⟨F3, e3, r3⟩ := i3 x H3 ds[i] (List.getElem?_eq_getElem hlt) y
    rw [List.drop_eq_getElem_cons hlt] at q2
    unfold forL at q2
    refine hg x ds[i] σ2 H3 F3 ρ2 _ (S2.ext e3) r3 ?_
    cases ho : f ds[i] ρ2 with
    | ok ρ3 =>
      rw [ho, O.go_ok] at q2
      intro σ4 S4
      refine hb _ σ4 H3 F3 ρ3 S4 ?_
      cases hbo : body ρ3 with
      | nx ρ5 =>
        rw [hbo] at q2
        exact fun σ5 H5 F5 s5 S5 => ⟨F5, ρ5, s12.trans (e3.f.trans s5), S5, SPost.mono q2 (e3.f.trans s5)⟩
      | ct ρ5 =>
        rw [hbo] at q2
        exact fun σ5 H5 F5 s5 S5 => ⟨F5, ρ5, s12.trans (e3.f.trans s5), S5, SPost.mono q2 (e3.f.trans s5)⟩
      | bk ρ5 =>
        rw [hbo] at q2
        exact fun σ5 H5 F5 s5 S5 => q2 σ5 H5 F5 (e3.f.trans s5) S5
      | rt d => rw [hbo] at q2; exact q2
      | ex n => rw [hbo] at q2; exact q2
      | bad => rw [hbo] at q2; exact q2
    | ex k => exact absurd ho (hx _ _ k)
    | bad => rw [ho] at q2; exact q2.elim
  · have : i = ds.length := by omega
    subst this
    refine .inl ⟨i2 rfl, ?_⟩
    rw [List.drop_length] at q2
    exact q2 σ2 H2 F2 (Same.refl _) S2
/-! ### while -/
def whileN (t : Rho → O Bool) (body : Rho → R) : Nat → Rho → R
  | 0, _ => .bad
  | n + 1, ρ => (t ρ).go fun k => if k = true then (match body ρ with
    | .nx ρ2 => whileN t body n ρ2
    | .ct ρ2 => whileN t body n ρ2
    | .bk ρ2 => .nx ρ2
    | .rt e => .rt e
    | .ex n => .ex n
    | .bad => .bad) else .nx ρ
def gWhile (n : Nat) (t : Rho → O Bool) (body : Rho → R) : Rho → R := fun ρ => whileN t body n ρ
theorem fs_while {n : Nat} {tt : TT} {tb : TS} {t : Rho → O Bool} {body : Rho → R} (ht : FT K c own tt t) (hb : FS K c own own own tb body) : FS K c ol own own (tWhile tt tb) (gWhile n t body) := fun D σ H F ρ S q => by
  refine ⟨fun m σ2 H2 => ∃ F2 ρ2, Sim K c.cls c.B own σ2 H2 F2 ρ2 ∧ SPost K c ol own F2 D (whileN t body m ρ2), ⟨n, F, ρ, S, q⟩, ?_⟩
  rintro m σ2 H2 ⟨F2, ρ2, S2, q2⟩
  cases m with
  | zero => exact q2.elim
  | succ m =>
    unfold whileN at q2
    refine ht σ2 H2 F2 ρ2 _ S2 (SPost.go q2 (fun k q2 H3 F3 e => ?_) fun n q H1 s => q σ2 H1 (S2.b.h.trans s))
    cases k with
    | true =>
      rw [if_pos rfl] at q2 ⊢
      refine ⟨fun σ4 H4 => ∃ F4 ρ4, Sim K c.cls c.B own σ4 H4 F4 ρ4 ∧ SPost K c ol own F4 D (whileN t body m ρ4), fun σ4 H4 z => ⟨m, Nat.lt_succ_self _, z⟩, ?_⟩
      refine hb _ σ2 H3 F3 ρ2 (S2.ext e) ?_
      cases hbo : body ρ2 with
      | nx ρ5 =>
        rw [hbo] at q2
        exact fun σ5 H5 F5 s5 S5 => ⟨F5, ρ5, S5, SPost.mono q2 (e.f.trans s5)⟩
      | ct ρ5 =>
        rw [hbo] at q2
        exact fun σ5 H5 F5 s5 S5 => ⟨F5, ρ5, S5, SPost.mono q2 (e.f.trans s5)⟩
      | bk ρ5 =>
        rw [hbo] at q2
        exact fun σ5 H5 F5 s5 S5 => q2 σ5 H5 F5 (e.f.trans s5) S5
      | rt d => rw [hbo] at q2; exact q2
      | ex n => rw [hbo] at q2; exact q2
      | bad => rw [hbo] at q2; exact q2
    | false =>
      rw [if_neg Bool.false_ne_true] at q2 ⊢
      exact q2 σ2 H3 F3 e.f (S2.ext e)
end
end Fn

set_option Elab.async false
set_option linter.all false
set_option maxRecDepth 100000
/-! Comprehensions, calls of own defs, bodies of defs. -/
namespace Fn
open PySem PySem.Spec L2

section
variable {K : PySem.W.Frag} {c : Ct} {ol own own' : List Nat} {b : Bool} {F H F' H' : Hp} {σ : L2.St} {ρ : Rho}
/-! ### comprehensions -/
def wipeR (ρ : Rho) : List Nat → Rho
  | [] => ρ
  | v :: vs => (wipeR ρ vs).set v none
theorem Sim.wipe (S : Sim K c.cls c.B own σ H F ρ) : ∀ vs : List Nat, Sim K c.cls c.B own (L2.wipe σ vs) H F (wipeR ρ vs)
  | [] => S
  | v :: vs => (Sim.wipe S vs).forget v none
theorem wipe_set {u : Option V} : ∀ {vs : List Nat} {i : Nat} (σ : L2.St), i ∈ vs → L2.wipe (σ.set i u) vs = L2.wipe σ vs
  | [], _, _, h => absurd h List.not_mem_nil
  | v :: vs, i, σ, h => by
    unfold L2.wipe
    by_cases e : i = v
    · subst e
      by_cases m : i ∈ vs
      · rw [wipe_set σ m]
      · have q : ∀ (ws : List Nat) (τ : L2.St), i ∉ ws → L2.wipe (τ.set i u) ws = (L2.wipe τ ws).set i u := fun ws => by
          induction ws with
          | nil => intro τ _; rfl
          | cons x xs ih =>
            intro τ hx
            unfold L2.wipe
            rw [ih τ (fun z => hx (List.mem_cons_of_mem _ z))]
            exact List.set_comm _ _ (fun z => hx (by rw [z]; exact List.mem_cons_self))
        rw [q vs σ m, List.set_set]
    · rcases List.mem_cons.mp h with z | z
      · exact absurd z e
      · rw [wipe_set σ z]
theorem wipe_wipe (σ : L2.St) (vs : List Nat) : L2.wipe (L2.wipe σ vs) vs = L2.wipe σ vs := by
  have key : ∀ (ws : List Nat) (τ : L2.St), (∀ w ∈ ws, w ∈ vs) → L2.wipe (L2.wipe τ ws) vs = L2.wipe τ vs := fun ws => by
    induction ws with
    | nil => intro τ _; rfl
    | cons x xs ih =>
      intro τ hx
      have e : L2.wipe τ (x :: xs) = (L2.wipe τ xs).set x none := rfl
      rw [e, wipe_set _ (hx x List.mem_cons_self), ih τ fun w hw => hx w (List.mem_cons_of_mem _ hw)]
  exact key vs σ fun w hw => hw
def FC (K : PySem.W.Frag) (c : Ct) (own vs : List Nat) (g : TG) (f : PyData → Rho → O Rho) : Prop := ∀ v d σ H F ρ Q, Sim K c.cls c.B own σ H F ρ → Rep K c.cls F v d → OPost (fun ρ' => ∀ σ', L2.wipe σ' vs = L2.wipe σ vs → Sim K c.cls c.B own σ' H F ρ' → Q σ' H) (fun _ => False) (f d ρ) → g v σ H Q
def FCs (K : PySem.W.Frag) (c : Ct) (own vs : List Nat) (g : TGs) (f : List PyData → Rho → O Rho) : Prop := ∀ us ds σ H F ρ Q, Sim K c.cls c.B own σ H F ρ → RepL K c.cls F us ds → OPost (fun ρ' => ∀ σ', L2.wipe σ' vs = L2.wipe σ vs → Sim K c.cls c.B own σ' H F ρ' → Q σ' H) (fun _ => False) (f ds ρ) → g us σ H Q
theorem fc_name {i : Nat} {vs : List Nat} (hi : own.contains i = false) (hv : vs.contains i = true) : FC K c own vs (gName i) (aName i) := fun v d σ H F ρ Q S r q => by
  have S2 := S.set i r
  rw [notIn_of hi] at S2
  exact q _ (wipe_set σ (List.contains_iff_mem.mp hv)) S2
theorem fcs_nil {vs : List Nat} : FCs K c own vs gNil aNil := fun us ds σ H F ρ Q S r q => by
  unfold aNil at q
  split at q
  · cases r
    exact ⟨rfl, q _ rfl S⟩
  · exact q.elim
theorem fcs_cons {vs : List Nat} {g : TG} {gs : TGs} {f : PyData → Rho → O Rho} {fs : List PyData → Rho → O Rho} (h : FC K c own vs g f) (hs : FCs K c own vs gs fs) : FCs K c own vs (gCons g gs) (aCons f fs) := fun us ds σ H F ρ Q S r q => by
  unfold aCons at q
  split at q
  · rename_i d ds
    cases r with
    | cons r t =>
      refine ⟨_, _, rfl, h _ _ σ H F ρ _ S r (OPost.imp (fun ρ' q σ' w S' => ?_) (fun _ q => q) (OPost.bind q))⟩
      exact hs _ _ σ' H F ρ' Q S' t (OPost.imp (fun ρ' q σ2 w2 S2 => q σ2 (w2.trans w) S2) (fun _ q => q) q)
  · exact q.elim
theorem fc_tup {vs : List Nat} {n : Nat} {gs : TGs} {fs : List PyData → Rho → O Rho} (h : FCs K c own vs gs fs) (hn : ∀ ds ρ, ds.length ≠ n → fs ds ρ = .bad) : FC K c own vs (L2.gTup K n gs) (aTup fs) := fun v d σ H F ρ Q S r q => by
  unfold aTup at q
  split at q
  · rename_i ds
    cases r with
    | tp h1 r =>
      refine ⟨_, _, rfl, Same.tup S.s h1, ?_, h _ _ σ H F ρ Q S r q⟩
      rw [r.length]
      by_cases e : ds.length = n
      · exact e
      · rw [hn ds ρ e] at q
        exact q.elim
  · exact q.elim
abbrev Ct.noW (c : Ct) : Ct := { c with W := fun _ _ _ _ => False }
def compL (f : PyData → Rho → O Rho) (t : Rho → O Bool) (e : Rho → O PyData) (ρ : Rho) : List PyData → O (List PyData)
  | [] => .ok []
  | d :: ds => (f d ρ).bind fun ρ1 => (noEx (t ρ1)).bind fun k => if k = true then (noEx (e ρ1)).bind fun y => (compL f t e ρ ds).bind fun ys => .ok (y :: ys) else compL f t e ρ ds
def gYes : Rho → O Bool := fun _ => .ok true
theorem ft_yes : FT K c own tYes gYes := fun σ H F ρ Q S q => q H F (Ext.refl S.s)
def gComp (vs : List Nat) (f : PyData → Rho → O Rho) (t : Rho → O Bool) (e : Rho → O PyData) (gi : Rho → O (List PyData)) : Rho → O PyData := fun ρ => (gi ρ).bind fun ds => if ds.length ≤ lim then (compL f t e (wipeR ρ vs) ds).bind fun ys => .ok (.list ys) else .bad
theorem Ext.updNew {p : Addr} {o : HO} (e : Ext F H F' H') (h : H p = none) (h' : F' p = none) : Ext F H F' (upd H' p o) :=
  ⟨e.f, fun b u q => by rw [upd_ne (ne_of_none q h)]; exact e.h b u q, fun b u q => by rw [upd_ne (ne_of_none q h')]; exact e.s b u q, e.n⟩
theorem O.bind_okI {α β : Type} {o : O α} {f : α → O β} {z : β} (h : o.bind f = .ok z) : ∃ a, o = .ok a ∧ f a = .ok z := by
  cases o with
  | ok a => exact ⟨a, rfl, h⟩
  | ex n => cases h
  | bad => cases h
theorem noEx_okI {α : Type} {o : O α} {z : α} (h : noEx o = .ok z) : o = .ok z := by
  cases o with
  | ok a => exact h
  | ex n => cases h
  | bad => cases h
theorem compL_ex {f : PyData → Rho → O Rho} {t : Rho → O Bool} {e : Rho → O PyData} (hx : ∀ d ρ k, f d ρ ≠ .ex k) : ∀ ds n, compL f t e ρ ds ≠ .ex n
  | [], n, h => by cases h
  | d :: ds, n, h => by
    unfold compL at h
    cases e1 : f d ρ with
    | ex k => exact hx d ρ k e1
    | bad => rw [e1] at h; cases h
    | ok ρ1 =>
      rw [e1, O.bind_ok] at h
      cases e2 : t ρ1 with
      | ex k => rw [e2] at h; cases h
      | bad => rw [e2] at h; cases h
      | ok k =>
        rw [e2] at h
        have h : (if k = true then (noEx (e ρ1)).bind fun y => (compL f t e ρ ds).bind fun ys => O.ok (y :: ys) else compL f t e ρ ds) = O.ex n := h
        cases k with
        | false =>
          rw [if_neg Bool.false_ne_true] at h
          exact compL_ex hx ds n h
        | true =>
          rw [if_pos rfl] at h
          cases e3 : e ρ1 with
          | ex k => rw [e3] at h; cases h
          | bad => rw [e3] at h; cases h
          | ok y =>
            rw [e3] at h
            have h : (compL f t e ρ ds).bind (fun ys => O.ok (y :: ys)) = O.ex n := h
            cases e4 : compL f t e ρ ds with
            | ex k => exact compL_ex hx ds k e4
            | bad => rw [e4] at h; cases h
            | ok ys => rw [e4] at h; cases h
theorem fo_comp {vs : List Nat} {wi : TI} {g : TG} {tt : TT} {te : TE} {gi : Rho → O (List PyData)} {f : PyData → Rho → O Rho} {t : Rho → O Bool} {e : Rho → O PyData} (hi : FI K c own wi gi) (hg : FC K c.noW own vs g f)
    (hx : ∀ d ρ k, f d ρ ≠ .ex k) (ht : FT K c.noW own tt t) (he : FE K c.noW own true te e) : FO K c own (tLc wi g tt te vs) (gComp vs f t e gi) := fun σ H F ρ Q S q => by
  refine hi σ H F ρ _ S (OPost.imp (fun ds q J H1 F1 e1 it => ?_) (fun _ q => q) (OPost.bind q))
  split at q
  · rename_i hlim
    intro A hA
    have S1 := S.ext e1
    cases hz : compL f t e (wipeR ρ vs) ds with
    | ex n => exact absurd hz (compL_ex hx ds n)
    | bad => rw [hz] at q; exact q.elim
    | ok zs =>
      rw [hz, O.bind_ok] at q
      obtain ⟨_, ez, q⟩ := q
      cases ez
      refine ⟨fun i m H2 => m = ds.length - i ∧ i ≤ ds.length ∧ ∃ F2 acc as ys, Ext F1 H1 F2 H2 ∧ H2 A = some (.lst acc) ∧ F2 A = none ∧ RepL K c.cls F2 acc as ∧ as.length ≤ i ∧ compL f t e (wipeR ρ vs) (ds.drop i) = .ok ys ∧ zs = as ++ ys,
        ⟨ds.length, by omega, Nat.zero_le _, F1, [], [], zs, Ext.newO e1.s hA, upd_same, e1.s.free hA, .nil, Nat.zero_le _, hz, rfl⟩, ?_⟩
      rintro i m H2 ⟨rfl, hle, F2, acc, as, ys, e2, hD, hF, hr, hl, hc, rfl⟩
      obtain ⟨i1, i2, i3⟩ := it F2 H2 e2.f e2.s i
      by_cases hlt : i < ds.length
      · refine .inr ⟨i1 hlt, fun H3 => ∃ F3 acc as' ys', Ext F1 H1 F3 H3 ∧ H3 A = some (.lst acc) ∧ F3 A = none ∧ RepL K c.cls F3 acc as' ∧ as'.length ≤ i + 1 ∧ compL f t e (wipeR ρ vs) (ds.drop (i + 1)) = .ok ys' ∧ as ++ ys = as' ++ ys',
          fun H3 z => ⟨ds.length - (i + 1), by omega, rfl, hlt, z⟩, fun x H3 y => ?_⟩
        obtain ⟨F3, e3, r3⟩ := i3 x H3 ds[i] (List.getElem?_eq_getElem hlt) y
        rw [List.drop_eq_getElem_cons hlt] at hc
        unfold compL at hc
        obtain ⟨ρ1, ho, hc⟩ := O.bind_okI hc
        obtain ⟨k, hk, hc⟩ := O.bind_okI hc
        have e13 := e2.trans e3
        refine hg x ds[i] (L2.wipe σ vs) H3 F3 (wipeR ρ vs) _ ((S1.ext e13).wipe vs) r3 ?_
        rw [ho]
        intro σ4 w4 S4
        refine ⟨w4.trans (wipe_wipe σ vs), ht σ4 H3 F3 ρ1 _ S4 ?_⟩
        rw [noEx_okI hk]
        intro H4 F4 e4
        have e14 := e13.trans e4
        have nF : ∀ {F5 H5}, Ext F2 H2 F5 H5 → F5 A = none := fun {F5 H5} ee => by
          cases qq : F5 A with
          | none => rfl
          | some o =>
            rcases ee.n A o qq with z | z
            · rw [hF] at z; cases z
            · rw [hD] at z; cases z
        cases k with
        | true =>
          rw [if_pos rfl] at hc ⊢
          obtain ⟨y, hy, hc⟩ := O.bind_okI hc
          obtain ⟨ys', hys, hc⟩ := O.bind_okI hc
          cases hc
          refine he σ4 H4 F4 ρ1 _ (S4.ext e4) ?_
          rw [noEx_okI hy]
          intro u H5 F5 e5 r5
          have e25 := (e3.trans e4).trans e5
          refine ⟨acc, e25.h _ _ hD, by rw [hr.length]; exact lt_lim (by omega), F5, _, as ++ [y], ys', (e2.trans e25).updNew hA (nF e25), upd_same, nF e25, (hr.mono e25.f).append (.cons r5 .nil), by rw [List.length_append, List.length_singleton]; omega, hys, by rw [List.append_assoc]; rfl⟩
        | false =>
          rw [if_neg Bool.false_ne_true] at hc ⊢
          have e24 := e3.trans e4
          exact ⟨F4, acc, as, ys, e2.trans e24, e24.h _ _ hD, nF e24, hr.mono e24.f, by omega, hc, rfl⟩
      · have : i = ds.length := by omega
        subst this
        rw [List.drop_length] at hc
        have hc : O.ok [] = O.ok ys := hc
        cases hc
        refine .inl ⟨i2 rfl, q A acc H2 F2 (e1.trans e2) hD hF (e1.h.free hA) ?_⟩
        rw [List.append_nil]
        exact hr
  · exact q.elim
theorem gComp_list {vs : List Nat} {f : PyData → Rho → O Rho} {t : Rho → O Bool} {e : Rho → O PyData} {gi : Rho → O (List PyData)} : ∀ ρ d, gComp vs f t e gi ρ = .ok d → ∃ ds, d = .list ds := fun ρ d h => by
  unfold gComp at h
  obtain ⟨ds, _, h⟩ := O.bind_okI h
  split at h
  · obtain ⟨ys, _, h⟩ := O.bind_okI h
    cases h
    exact ⟨ys, rfl⟩
  · cases h
theorem fe_comp {vs : List Nat} {wi : TI} {g : TG} {tt : TT} {te : TE} {gi : Rho → O (List PyData)} {f : PyData → Rho → O Rho} {t : Rho → O Bool} {e : Rho → O PyData} (hi : FI K c own wi gi) (hg : FC K c.noW own vs g f)
    (hx : ∀ d ρ k, f d ρ ≠ .ex k) (ht : FT K c.noW own tt t) (he : FE K c.noW own true te e) : FE K c own b (tLc wi g tt te vs) (gComp vs f t e gi) := (fo_comp hi hg hx ht he).fe gComp_list
theorem g2L_list {op : PyData → PyData → O (List PyData)} {ga gb : Rho → O PyData} : ∀ ρ d, g2L op ga gb ρ = .ok d → ∃ ds, d = .list ds := fun ρ d h => by
  unfold g2L at h
  obtain ⟨x, _, h⟩ := O.bind_okI h
  obtain ⟨y, _, h⟩ := O.bind_okI h
  obtain ⟨z, _, h⟩ := O.bind_okI h
  cases h
  exact ⟨z, rfl⟩
theorem gSlL_list {g : Rho → O PyData} {gl gh : Rho → O (Option Int)} : ∀ ρ d, gSlL g gl gh ρ = .ok d → ∃ ds, d = .list ds := fun ρ d h => by
  unfold gSlL at h
  obtain ⟨x, _, h⟩ := O.bind_okI h
  obtain ⟨y, _, h⟩ := O.bind_okI h
  obtain ⟨z, _, h⟩ := O.bind_okI h
  unfold dSlL at h
  split at h
  · cases h; exact ⟨_, rfl⟩
  · cases h
/-! ### own defs -/
def spF (K : PySem.W.Frag) (cls xc : Nat → Addr) (n : Nat) (f : List PyData → O PyData) : Sp := fun vs H Q E => ∃ F ds, Same F H ∧ RepL K cls F vs ds ∧ ds.length = n ∧
  OPost (fun d => ∀ v H' F', Ext F H F' H' → Rep K cls F' v d → Q v H') (fun k => ∀ H', Same H H' → E (.ref (xc k)) none H') (f ds)
def gFn (n : Nat) (f : List PyData → O PyData) (g : Rho → O (List PyData)) : Rho → O PyData := fun ρ => (g ρ).bind fun ds => if ds.length = n then f ds else .bad
theorem fe_call {n : Nat} {f : List PyData → O PyData} {t : TA} {g : Rho → O (List PyData)} {W : WX} (hW : c.W = W) (h : FA K c own true t g) : FE K c own b (tCallS (spF K c.cls c.xc n f) (WE W) t) (gFn n f g) := FE.any fun σ H F ρ Q S q => by
  subst hW
  refine h σ H F ρ _ S (OPost.imp (fun ds q vs H1 F1 e1 r1 => ?_) (fun _ q => q) (OPost.bind q))
  split at q
  · rename_i hn
    exact ⟨F1, ds, e1.s, r1, hn, OPost.imp (fun d q v H2 F2 e2 r2 => q v H2 F2 (e1.trans e2) r2) (fun k q H2 s => q H2 (e1.h.trans s)) q⟩
  · exact q.elim
def flatO : PyData → O PyData := fun d => if flatD d = true then .ok d else .bad
def gFnB (n : Nat) (f : List PyData → O PyData) (g : Rho → O (List PyData)) : Rho → O PyData := fun ρ => (g ρ).bind fun ds => if ds.length = n then (f ds).bind flatO else .bad
theorem Rep.flat {v : V} {d : PyData} {G : Hp} (r : Rep K c.cls F v d) (h : flatD d = true) : Rep K c.cls G v d := by
  cases r with
  | non => exact .non
  | bl k => exact .bl k
  | int i => exact .int i
  | str x => exact .str x
  | ls _ _ => cases h
  | ro _ _ => cases h
  | tp _ _ => cases h
  | ob _ _ => cases h
theorem paired_full (s : Same F H) : ∀ {vs : List V} {ds : List PyData}, Paired (Rep1 K c F H) vs ds → RepL K c.cls H vs ds
  | _, _, .nil => .nil
  | _, _, .cons r t => .cons (Rep1.full r s) (paired_full s t)
theorem fe_callS {n : Nat} {f : List PyData → O PyData} {t : TA} {g : Rho → O (List PyData)} {W : WX} (hW : c.W = W) (h : FA K c own false t g) : FE K c own b (tCallS (spF K c.cls c.xc n f) (WE W) t) (gFnB n f g) := FE.any fun σ H F ρ Q S q => by
  subst hW
  refine h σ H F ρ _ S (OPost.imp (fun ds q vs H1 F1 e1 r1 => ?_) (fun _ q => q) (OPost.bind q))
  split at q
  · rename_i hn
    refine ⟨H1, ds, Same.refl _, paired_full e1.s r1, hn, OPost.imp (fun d q v H2 F2 e2 r2 => ?_) (fun k q H2 s => q H2 (e1.h.trans s)) (OPost.bind q)⟩
    unfold flatO at q
    split at q
    · rename_i hf
      exact q v H2 F1 (e1.trans ⟨Same.refl _, e2.h, e1.s.trans e2.h, fun _ _ z => .inl z⟩) (r2.flat hf)
    · exact q.elim
  · exact q.elim
def outR : R → O PyData
  | .nx _ => .ok .none
  | .rt d => .ok d
  | .ex n => .ex n
  | .bk _ => .bad
  | .ct _ => .bad
  | .bad => .bad
def rho0 (m : Nat) (ds : List PyData) : Rho := ds.map some ++ List.replicate (m - ds.length) none
def fnG (m : Nat) (g : Rho → R) : List PyData → O PyData := fun ds => outR (g (rho0 m ds))
end
theorem sim_start {K : PySem.W.Frag} {cls : Nat → Addr} {F H : Hp} {N : List Str} {vs : List V} {ds : List PyData} (s : Same F H) (r : RepL K cls F vs ds) : Sim K cls (H, F) [] (L2.start N vs) H F (rho0 N.length ds) where
  b := Ext.refl s
  len := by
    unfold L2.start rho0
    rw [List.length_append, List.length_append, List.length_map, List.length_map, List.length_replicate, List.length_replicate, r.length]
  fro := fun i d _ h => by
    unfold rho0 at h
    by_cases hi : i < ds.length
    · rw [List.getElem?_append_left (by rw [List.length_map]; exact hi), List.getElem?_map] at h
      cases q : ds[i]? with
      | none => rw [q] at h; cases h
      | some d' =>
        rw [q] at h
        cases h
        obtain ⟨v, h1, h2⟩ := r.get q
        refine ⟨v, ?_, h2⟩
        unfold L2.start
        rw [List.getElem?_append_left (by rw [List.length_map, r.length]; exact hi), List.getElem?_map, h1]
        rfl
    · rw [List.getElem?_append_right (by rw [List.length_map]; omega)] at h
      rw [List.getElem?_replicate] at h
      split at h <;> cases h
  ow := fun i d hi => absurd hi List.not_mem_nil
  sep := fun i j d e a hi => absurd hi List.not_mem_nil
section
variable {P : Program} {w : World} {K : PySem.W.Frag} {mg : Str → Option Value} {base : Heap}
/-- a def by its body -/
theorem fn_ok {x qual : Str} {st : Stmt} {f : Addr} {fd : FuncData} {N ps : List Str} {k : Nat} {cls xc : Nat → Addr} (F : Fun K x qual st f fd) (S : FnScope N ps (defScope st)) (g : Rho → R) (own' : List Nat)
    (h : ∀ (cdv : Value) (A : Around) (outer : List Env) (s : Shared) (H : Hp) (E : XK) (F0 : Hp), Room k (A.deeper (PyProof.Rows.envOfC qual (defScope st) s.heap.objs.size f cdv)) →
      ∃ t, PSs (cxOf (L2.CX P w) P w K mg base N qual (defScope st) f cdv A outer s H E) (defBody st) t ∧ FS K ⟨cls, xc, fun cl d _ H' => E cl d H', (H, F0)⟩ [] [] own' t g) :
    FnOk P w K mg base (L2.CX P w) (k + 1) f fd ps (spF K cls xc ps.length (fnG N.length g)) := by
  refine F.okX S (fun vs H Q E h => ?_) (fun cdv A outer s H vs Q E hr hsp => ?_)
  · obtain ⟨F0, ds, _, r, hn, _⟩ := h
    rw [r.length]; exact hn
  · obtain ⟨F0, ds, sF, r, hn, q⟩ := hsp
    obtain ⟨t, ht, hf⟩ := h cdv A outer s H E F0 hr
    refine ⟨t, ht, hf _ _ H F0 (rho0 N.length ds) (sim_start sF r) ?_⟩
    unfold fnG at q
    cases e : g (rho0 N.length ds) with
    | nx ρ' =>
      rw [e] at q
      exact fun σ' H' F' s' S' => q .non H' F' S'.b .non
    | rt d => rw [e] at q; exact q
    | ex n => rw [e] at q; exact fun σ' H' s' => q H' s'
    | bk ρ' => rw [e] at q; exact q.elim
    | ct ρ' => rw [e] at q; exact q.elim
    | bad => rw [e] at q; exact q.elim
end
end Fn

set_option Elab.async false
set_option linter.all false
set_option maxRecDepth 100000
/-! What the top has written, by names. -/
namespace Fn
open PySem PySem.Spec L2

/-- a def of the top, by its name -/
def DefAt (K : PySem.W.Frag) (mg : Str → Option Value) (x : Str) (st : Stmt) (ps : List Str) : Prop := ∃ f fd, Fun K x x st f fd ∧ mg x = some (.ref f) ∧ Binds K fd ps []
/-- .. and what it does -/
def OkAt (P : Program) (w : World) (K : PySem.W.Frag) (mg : Str → Option Value) (base : Heap) (cls xc : Nat → Addr) (x : Str) (ps : List Str) (n k : Nat) (g : List PyData → O PyData) : Prop :=
  ∃ f fd, FnOk P w K mg base (L2.CX P w) k f fd ps (spF K cls xc n g) ∧ mg x = some (.ref f) ∧ PySem.W.keepIn K (.ref f) = true ∧ Binds K fd ps []
theorem okAt_of {P : Program} {w : World} {K : PySem.W.Frag} {mg : Str → Option Value} {base : Heap} {cls xc : Nat → Addr} {x : Str} {st : Stmt} {ps N : List Str} {k : Nat} (d : DefAt K mg x st ps) (S : FnScope N ps (defScope st)) (g : Rho → R) (own' : List Nat)
    (h : ∀ (f : Addr) (cdv : Value) (A : Around) (outer : List Env) (s : Shared) (H : Hp) (E : XK) (F0 : Hp), Room k (A.deeper (PyProof.Rows.envOfC x (defScope st) s.heap.objs.size f cdv)) →
      ∃ t, PSs (cxOf (L2.CX P w) P w K mg base N x (defScope st) f cdv A outer s H E) (defBody st) t ∧ FS K ⟨cls, xc, fun cl d _ H' => E cl d H', (H, F0)⟩ [] [] own' t g) :
    OkAt P w K mg base cls xc x ps ps.length (k + 1) (fnG N.length g) := by
  obtain ⟨f, fd, F, m, b⟩ := d
  exact ⟨f, fd, fn_ok F S g own' (h f), m, F.kp, b⟩
section
variable {X : Cx} {cls xc : Nat → Addr} {x : Str} {ps : List Str} {n k j : Nat} {g : List PyData → O PyData} {W : WX} {p pos : Pos} {e : Expr} {es : List Expr} {t : TA}
theorem pe_callO (o : OkAt X.prog X.w X.K X.mg X.base cls xc x ps n k g) (hr : Room j X.A) (hk : k ≤ j) (hg : Gl X x) (tk : Takes X W) (ha : PA X (e :: es) t) (hdb : (x == ("__debug__" : Str)) = false := by decide)
    (he : starEach (e :: es) X.env = (false, eval e X.env) :: starEach es X.env := by rfl) (hpl : (backTo pos (starEach es X.env)).any (·.1) = false := by rfl) :
    PE X (.Call (.Name x p) (e :: es) [] pos) (tCallS (spF X.K cls xc n g) (WE W) t) := by
  obtain ⟨f, fd, F, m, kp, b⟩ := o
  exact pe_callS F (hr.mono hk) hg m kp b (fun σ => passAt tk σ) ha hdb he hpl
end
/-- an error class of the text's own -/
structure ExcAt (K : PySem.W.Frag) (mg : Str → Option Value) (x : Str) (C : Addr) : Prop where
  g : mg x = some (.ref C)
  k : PySem.W.keepIn K (.ref C) = true
  x : PySem.W.excIn K C [.type "ValueError", .type "Exception", .type "BaseException", .type "object"] "ValueError.__new__" = true
  b : PySem.W.subIn K (.ref C) (.type "BaseException") = some true
  t : PySem.W.typeIn K (.ref C) = some (.type "type")
theorem ps_raiseO {X : Cx} {W : WX} {x m : Str} {C : Addr} {j : Nat} {p p2 pos pos' : Pos} (hc : X.calm = true) (tk : Takes X W) (T : ExcAt X.K X.mg x C) (hg : Gl X x) (hdb : (x == ("__debug__" : Str)) = false := by decide) :
    PS X (.Raise (some (.Call (.Name x p) [.Constant (.str m) j p2] [] pos)) none pos') (fun _ σ H => W (.ref C) none σ H) :=
  ps_raise hc tk (pmk_own PySem.F.excBase_ValueError T.x T.g T.k (raises_own T.b T.t) hg hdb)
/-- a whole number of the top -/
def IntAt (mg : Str → Option Value) (x : Str) (i : Int) : Prop := ∃ t, mg x = some (.int i t)
theorem pe_globI {X : Cx} {x : Str} {i : Int} {pos : Pos} (hg : Gl X x) (h : IntAt X.mg x i) (hd : (x == ("__debug__" : Str)) = false := by decide) : PE X (.Name x pos) (tC (.int i)) := by
  obtain ⟨t, h⟩ := h
  exact pe_glob hg h ⟨t, rfl⟩ hd
theorem fe_int {K : PySem.W.Frag} {c : Ct} {own : List Nat} {b : Bool} (i : Int) : FE K c own b (tC (.int i)) (gC (.int i)) := fe_c fun _ => .int i
theorem fe_str {K : PySem.W.Frag} {c : Ct} {own : List Nat} {b : Bool} (i : Str) : FE K c own b (tC (.str i)) (gC (.str i)) := fe_c fun _ => .str i
theorem fe_bool {K : PySem.W.Frag} {c : Ct} {own : List Nat} {b : Bool} (i : Bool) : FE K c own b (tC (.bl i)) (gC (.bool i)) := fe_c fun _ => .bl i
theorem fe_none {K : PySem.W.Frag} {c : Ct} {own : List Nat} {b : Bool} : FE K c own b (tC .non) (gC .none) := fe_c fun _ => .non
/-! built-in names -/
theorem bt_len : bootBuiltins "len" = some (.builtin "len") := by decide +kernel
theorem bt_all : bootBuiltins "all" = some (.builtin "all") := by decide +kernel
theorem bt_any : bootBuiltins "any" = some (.builtin "any") := by decide +kernel
theorem bt_sum : bootBuiltins "sum" = some (.builtin "sum") := by decide +kernel
theorem bt_max : bootBuiltins "max" = some (.builtin "max") := by decide +kernel
theorem bt_min : bootBuiltins "min" = some (.builtin "min") := by decide +kernel
theorem bt_abs : bootBuiltins "abs" = some (.builtin "abs") := by decide +kernel
theorem bt_isinstance : bootBuiltins "isinstance" = some (.builtin "isinstance") := by decide +kernel
theorem bt_int : bootBuiltins "int" = some (.type "int") := by decide +kernel
theorem bt_str : bootBuiltins "str" = some (.type "str") := by decide +kernel
theorem bt_tuple : bootBuiltins "tuple" = some (.type "tuple") := by decide +kernel
theorem bt_list : bootBuiltins "list" = some (.type "list") := by decide +kernel
theorem bt_bool : bootBuiltins "bool" = some (.type "bool") := by decide +kernel
/-! operators in short -/
abbrev gAdd := g2 fun d e => noEx (dAdd d e)
abbrev gSub' := g2 fun d e => noEx (dSub d e)
abbrev gMul := g2 fun d e => noEx (dMul d e)
abbrev gFdiv := g2 fun d e => noEx (dFdiv d e)
abbrev gMod := g2 fun d e => noEx (dMod d e)
abbrev gPow := g2 fun d e => noEx (dPow d e)
abbrev gLt := g2 fun d e => noEx (dLt d e)
abbrev gLe := g2 fun d e => noEx (dLe d e)
abbrev gGt := g2 fun d e => noEx (dGt d e)
abbrev gGe := g2 fun d e => noEx (dGe d e)
abbrev gEq := g2 fun d e => noEx (dEq d e)
abbrev gNe := g2 fun d e => noEx (dNe d e)
abbrev gIn := g2 fun d e => noEx (dIn false d e)
abbrev gNotIn := g2 fun d e => noEx (dIn true d e)
abbrev gIsN := g2 fun d e => noEx (dIsN d e)
abbrev gNotN := g2 fun d e => noEx (dNotN d e)
abbrev gIx := g2 fun d e => noEx (dIx d e)
abbrev gNeg := g1 fun d => noEx (dNeg d)
abbrev gB (f : List PyData → O PyData) := gCall fun ds => noEx (f ds)
end Fn

set_option Elab.async false
set_option linter.all false
set_option maxRecDepth 100000
/-! The class Problem: three lists of its own, made of what is_problem takes. -/
namespace Fn
open PySem PySem.Spec L2

def pf (p1 p2 p3 : Addr) : List (Str × V) := putF "gain" (.ref p3) (putF "rows" (.ref p2) (putF "tops" (.ref p1) []))
theorem pf_eq (p1 p2 p3 : Addr) : pf p1 p2 p3 = ([("tops", V.ref p1), ("rows", V.ref p2), ("gain", V.ref p3)] : List (Str × V)) := by
  have h1 : ¬ (("tops" : Str) = "rows") := by decide +kernel
  have h2 : ¬ (("tops" : Str) = "gain") := by decide +kernel
  have h3 : ¬ (("rows" : Str) = "gain") := by decide +kernel
  unfold pf
  have e1 : putF "tops" (.ref p1) [] = ([("tops", V.ref p1)] : List (Str × V)) := rfl
  rw [e1]
  have e2 : putF "rows" (.ref p2) [(("tops" : Str), V.ref p1)] = ([("tops", V.ref p1), ("rows", V.ref p2)] : List (Str × V)) := by
    show (if ("tops" : Str) = "rows" then [(("rows" : Str), V.ref p2)] else (("tops" : Str), V.ref p1) :: putF "rows" (.ref p2) []) = _
    rw [if_neg h1]
    rfl
  rw [e2]
  show (if ("tops" : Str) = "gain" then (("gain" : Str), V.ref p3) :: [(("rows" : Str), V.ref p2)] else (("tops" : Str), V.ref p1) :: (if ("rows" : Str) = "gain" then [(("gain" : Str), V.ref p3)] else (("rows" : Str), V.ref p2) :: putF "gain" (.ref p3) [])) = _
  rw [if_neg h2, if_neg h3]
  rfl
/-- a problem's data -/
abbrev D.prob (ts rs gs : List PyData) : PyData := D.ob 0 [(.str "tops", .list ts), (.str "rows", .list rs), (.str "gain", .list gs)]
def spI (K : PySem.W.Frag) (cls xc : Nat → Addr) (fp : List PyData → O PyData) : Sp := fun vs H Q E => ∃ x dx v1 v2 v3 d1 d2 d3, vs = [.ref x, v1, v2, v3] ∧ H x = some (.ins (cls 0) dx []) ∧ RepL K cls H [v1, v2, v3] [d1, d2, d3] ∧
  OPost (fun d => ∃ k, d = .bool k ∧ if k = true then
      ∃ a1 a2 a3 xs1 xs2 xs3, v1 = .ref a1 ∧ v2 = .ref a2 ∧ v3 = .ref a3 ∧ H a1 = some (.lst xs1) ∧ H a2 = some (.lst xs2) ∧ H a3 = some (.lst xs3) ∧
        ∀ H' p1 p2 p3, (∀ b o, b ≠ x → H b = some o → H' b = some o) → H p1 = none → H p2 = none → H p3 = none → H' p1 = some (.lst xs1) → H' p2 = some (.lst xs2) → H' p3 = some (.lst xs3) → H' x = some (.ins (cls 0) dx (pf p1 p2 p3)) → Q .non H'
    else ∀ H', Same H H' → E (.ref (xc 1)) none H') (fun _ => False) (fp [d1, d2, d3])
/-- the reading of __init__ -/
def tInit (K : PySem.W.Frag) (cls xc : Nat → Addr) (fp : List PyData → O PyData) (W : WX) : TS :=
  tSeq (tIfS (tNot fun σ H Q => tCallS (spF K cls xc 3 fp) (WE W) (tCons (tVar 1) (tCons (tVar 2) (tCons (tVar 3) tNil))) σ H fun x H' => ∃ k, TruV K x H' k ∧ Q k H') (fun _ σ H => W (.ref (xc 1)) none σ H) tNext)
    (tSeq (sFld K (tVar 0) (tCB (rListOf K) (tCons (tVar 1) tNil)) "tops")
    (tSeq (sFld K (tVar 0) (tCB (rListOf K) (tCons (tVar 2) tNil)) "rows")
      (sFld K (tVar 0) (tCB (rListOf K) (tCons (tVar 3) tNil)) "gain")))
section
variable {P : Program} {w : World} {K : PySem.W.Frag} {mg : Str → Option Value} {base : Heap} {cls xc : Nat → Addr} {fp : List PyData → O PyData}
theorem init_pure (cl : Cls K (cls 0)) (n1 : NoAttr K (cls 0) "tops") (n2 : NoAttr K (cls 0) "rows") (n3 : NoAttr K (cls 0) "gain") {vs : List V} {H : Hp} {Q : VK} {E : XK} (h : spI K cls xc fp vs H Q E) :
    tInit K cls xc fp (fun c d _ H => E c d H) { nx := fun _ H' => Q .non H', rt := Q } (L2.start ["self", "tops", "rows", "gain"] vs) H := by
  obtain ⟨x, dx, v1, v2, v3, d1, d2, d3, rfl, hx, r, q⟩ := h
  refine ⟨v1, rfl, v2, rfl, v3, rfl, H, [d1, d2, d3], Same.refl _, r, rfl, ?_⟩
  cases e : fp [d1, d2, d3] with
  | ex n => rw [e] at q; exact q.elim
  | bad => rw [e] at q; exact q.elim
  | ok d =>
    rw [e] at q
    obtain ⟨k, rfl, q⟩ := q
    intro v H1 F1 e1 r1
    cases r1
    refine ⟨k, rfl, ?_⟩
    cases k with
    | false => exact q H1 e1.h
    | true =>
      obtain ⟨a1, a2, a3, xs1, xs2, xs3, rfl, rfl, rfl, h1, h2, h3, q⟩ := q
      have s1 : Same H H1 := e1.h
      -- self.tops = list(tops)
      refine ⟨_, rfl, a1, xs1, rfl, .inl (SqL.of (s1 _ _ h1)), fun p1 np1 => ?_⟩
      have s2 : Same H1 (upd H1 p1 (.lst xs1)) := same_upd np1
      refine ⟨_, rfl, x, cls 0, dx, [], rfl, s2 _ _ (s1 _ _ hx), cl, n1, (by show 0 < 1000; decide), ?_⟩
      generalize hH2 : upd (upd H1 p1 (.lst xs1)) x (.ins (cls 0) dx (putF "tops" (.ref p1) [])) = H2
      have x1 : x ≠ p1 := ne_of_none (s1 _ _ hx) np1
      have k2 : ∀ b o, b ≠ x → H b = some o → H2 b = some o := fun b o hb z => by rw [← hH2, upd_ne hb]; exact s2 _ _ (s1 _ _ z)
      have hx2 : H2 x = some (.ins (cls 0) dx (putF "tops" (.ref p1) [])) := by rw [← hH2]; exact upd_same
      have hp1 : H2 p1 = some (.lst xs1) := by rw [← hH2, upd_ne x1.symm]; exact upd_same
      have f2 : ∀ {p}, H2 p = none → H p = none := fun {p} z => by
        cases q0 : H p with
        | none => rfl
        | some o =>
          by_cases px : p = x
          · subst px; rw [hx2] at z; cases z
          · rw [k2 p o px q0] at z; cases z
      have ax : ∀ {a xs}, H a = some (.lst xs) → a ≠ x := fun {a xs} z e => by subst e; rw [hx] at z; cases z
      -- self.rows = list(rows)
      refine ⟨_, rfl, a2, xs2, rfl, .inl (SqL.of (k2 _ _ (ax h2) h2)), fun p2 np2 => ?_⟩
      have x2 : x ≠ p2 := ne_of_none hx2 np2
      refine ⟨_, rfl, x, cls 0, dx, _, rfl, (by rw [upd_ne x2]; exact hx2), cl, n2, (by show 1 < 1000; decide), ?_⟩
      generalize hH3 : upd (upd H2 p2 (.lst xs2)) x (.ins (cls 0) dx (putF "rows" (.ref p2) (putF "tops" (.ref p1) []))) = H3
      have k3 : ∀ b o, b ≠ x → H2 b = some o → H3 b = some o := fun b o hb z => by rw [← hH3, upd_ne hb]; exact same_upd np2 _ _ z
      have hx3 : H3 x = some (.ins (cls 0) dx (putF "rows" (.ref p2) (putF "tops" (.ref p1) []))) := by rw [← hH3]; exact upd_same
      have hp2 : H3 p2 = some (.lst xs2) := by rw [← hH3, upd_ne x2.symm]; exact upd_same
      have f3 : ∀ {p}, H3 p = none → H2 p = none := fun {p} z => by
        cases q0 : H2 p with
        | none => rfl
        | some o =>
          by_cases px : p = x
          · subst px; rw [hx3] at z; cases z
          · rw [k3 p o px q0] at z; cases z
      -- self.gain = list(gain)
      refine ⟨_, rfl, a3, xs3, rfl, .inl (SqL.of (k3 _ _ (ax h3) (k2 _ _ (ax h3) h3))), fun p3 np3 => ?_⟩
      have x3 : x ≠ p3 := ne_of_none hx3 np3
      refine ⟨_, rfl, x, cls 0, dx, _, rfl, (by rw [upd_ne x3]; exact hx3), cl, n3, ?_, ?_⟩
      · have e2 : (putF "rows" (.ref p2) (putF "tops" (.ref p1) []) : List (Str × V)).length ≤ 2 := by
          have h1 : ¬ (("tops" : Str) = "rows") := by decide +kernel
          show (if ("tops" : Str) = "rows" then [(("rows" : Str), V.ref p2)] else (("tops" : Str), V.ref p1) :: putF "rows" (.ref p2) []).length ≤ 2
          rw [if_neg h1]
          exact Nat.le_refl _
        omega
      · refine q _ p1 p2 p3 (fun b o hb z => ?_) (s1.free np1) (f2 np2) (f2 (f3 np3)) ?_ ?_ ?_ upd_same
        · rw [upd_ne hb]
          exact same_upd np3 _ _ (k3 _ _ hb (k2 _ _ hb z))
        · rw [upd_ne x1.symm]
          exact same_upd np3 _ _ (k3 _ _ x1.symm hp1)
        · rw [upd_ne x2.symm]
          exact same_upd np3 _ _ hp2
        · rw [upd_ne x3.symm]
          exact upd_same
theorem init_ok {st : Stmt} {f : Addr} {fd : FuncData} {k : Nat} (F : Fun K "__init__" "Problem.__init__" st f fd) (S : FnScope ["self", "tops", "rows", "gain"] ["self", "tops", "rows", "gain"] (defScope st))
    (cl : Cls K (cls 0)) (n1 : NoAttr K (cls 0) "tops") (n2 : NoAttr K (cls 0) "rows") (n3 : NoAttr K (cls 0) "gain")
    (h : ∀ (cdv : Value) (A : Around) (outer : List Env) (s : Shared) (H : Hp) (E : XK), Room k (A.deeper (PyProof.Rows.envOfC "Problem.__init__" (defScope st) s.heap.objs.size f cdv)) →
      PSs (cxOf (L2.CX P w) P w K mg base ["self", "tops", "rows", "gain"] "Problem.__init__" (defScope st) f cdv A outer s H E) (defBody st) (tInit K cls xc fp fun c d _ H => E c d H)) :
    FnOk P w K mg base (L2.CX P w) (k + 1) f fd ["self", "tops", "rows", "gain"] (spI K cls xc fp) := by
  refine F.okX S (fun vs H Q E h => ?_) (fun cdv A outer s H vs Q E hr hsp => ⟨_, h cdv A outer s H E hr, init_pure cl n1 n2 n3 hsp⟩)
  obtain ⟨x, dx, v1, v2, v3, d1, d2, d3, rfl, _⟩ := h
  rfl
end
/-- the class, as callers need it -/
def MkAt (P : Program) (w : World) (K : PySem.W.Frag) (mg : Str → Option Value) (base : Heap) (cls xc : Nat → Addr) (k : Nat) (fp : List PyData → O PyData) : Prop :=
  ∃ f fd, FnOk P w K mg base (L2.CX P w) k f fd ["self", "tops", "rows", "gain"] (spI K cls xc fp) ∧ Mk K (cls 0) f ∧ mg "Problem" = some (.ref (cls 0)) ∧ Binds K fd ["self", "tops", "rows", "gain"] []
theorem pe_makeO {X : Cx} {cls xc : Nat → Addr} {k j : Nat} {fp : List PyData → O PyData} {E : XK} {p pos : Pos} {e : Expr} {es : List Expr} {t : TA} (o : MkAt X.prog X.w X.K X.mg X.base cls xc k fp) (hr : Room j X.A) (hk : k + 1 ≤ j) (hg : Gl X "Problem")
    (hx : Passes (L2.CX X.prog X.w) X E) (ha : PA X (e :: es) t) (he : starEach (e :: es) X.env = (false, eval e X.env) :: starEach es X.env := by rfl) (hpl : (backTo pos (starEach es X.env)).any (·.1) = false := by rfl) :
    PE X (.Call (.Name "Problem" p) (e :: es) [] pos) (tMake (cls 0) (spI X.K cls xc fp) [] E t) := by
  obtain ⟨f, fd, F, M, m, b⟩ := o
  exact pe_make M F (hr.mono hk) hg m b .nil hx ha (by decide) he hpl
theorem passW {X : Cx} {W : WX} {E : XK} (tk : Takes X W) (hE : W = fun c d _ H => E c d H) : Passes (L2.CX X.prog X.w) X E := passes_call tk fun c d σ H h => by rw [hE]; exact h
section
variable {K : PySem.W.Frag} {c : Ct} {own : List Nat} {b : Bool} {F H F' H' : Hp} {σ : L2.St} {ρ : Rho}
/-- what is_problem takes -/
def IsP (fp : List PyData → O PyData) : Prop := ∀ ds, fp ds = .ok (.bool true) → ∃ ts rs gs, ds = [.list ts, .list rs, .list gs]
def makeP (fp : List PyData → O PyData) (ds : List PyData) : O PyData := (noEx (fp ds)).bind fun d => match d with
  | .bool true => (match ds with
    | [.list ts, .list rs, .list gs] => .ok (D.prob ts rs gs)
    | _ => .bad)
  | .bool false => .ex 1
  | _ => .bad
def gMake (fp : List PyData → O PyData) (g : Rho → O (List PyData)) : Rho → O PyData := fun ρ => (g ρ).bind fun ds => if ds.length = 3 then makeP fp ds else .bad
/-- what stands in H' for good, if it is among what is kept -/
theorem upd_in {F' H' : Hp} {p a : Addr} {o u : HO} (hp : H' p = some o) (h : H' a = some u) (hf : a = p ∨ F' a = some u) : upd F' p o a = some u := by
  by_cases e : a = p
  · subst e
    rw [upd_same]
    rw [hp] at h
    exact h
  · rw [upd_ne e]
    exact hf.resolve_left e
theorem made_ext {H1 F1 H2 : Hp} {x dx p1 p2 p3 : Addr} {ts rs gs : List PyData} {xs1 xs2 xs3 : List V} (s : Same F1 H1) (nx : H1 x = none) (nd : H1 dx = none) (ne : dx ≠ x)
    (k : ∀ b o, b ≠ x → (upd (upd H1 dx (.own x)) x (.ins (c.cls 0) dx [])) b = some o → H2 b = some o)
    (n1 : (upd (upd H1 dx (.own x)) x (.ins (c.cls 0) dx [])) p1 = none) (n2 : (upd (upd H1 dx (.own x)) x (.ins (c.cls 0) dx [])) p2 = none) (n3 : (upd (upd H1 dx (.own x)) x (.ins (c.cls 0) dx [])) p3 = none)
    (q1 : H2 p1 = some (.lst xs1)) (q2 : H2 p2 = some (.lst xs2)) (q3 : H2 p3 = some (.lst xs3)) (qx : H2 x = some (.ins (c.cls 0) dx (pf p1 p2 p3)))
    (r1 : RepL K c.cls F1 xs1 ts) (r2 : RepL K c.cls F1 xs2 rs) (r3 : RepL K c.cls F1 xs3 gs) : ∃ F2, Ext F1 H1 F2 H2 ∧ Rep K c.cls F2 (.ref x) (D.prob ts rs gs) := by
  have hs : Same H1 H2 := fun b o z => by
    have b1 : b ≠ x := ne_of_none z nx
    have b2 : b ≠ dx := ne_of_none z nd
    exact k b o b1 (by rw [upd_ne b1, upd_ne b2]; exact z)
  have free : ∀ {p}, (upd (upd H1 dx (.own x)) x (.ins (c.cls 0) dx [])) p = none → H1 p = none := fun {p} z => by
    cases q : H1 p with
    | none => rfl
    | some o =>
      have b1 : p ≠ x := ne_of_none q nx
      have b2 : p ≠ dx := ne_of_none q nd
      rw [upd_ne b1, upd_ne b2, q] at z
      cases z
  have e0 : Ext F1 H1 F1 H2 := ⟨Same.refl _, hs, s.trans hs, fun _ _ z => .inl z⟩
  have e1 := e0.keep (free n1) q1
  have e2 := e1.keep (free n2) q2
  have e3 := e2.keep (free n3) q3
  have e4 := e3.keep nx qx
  refine ⟨_, e4, .ob upd_same ?_⟩
  rw [pf_eq]
  have w1 : upd (upd (upd (upd F1 p1 (.lst xs1)) p2 (.lst xs2)) p3 (.lst xs3)) x (.ins (c.cls 0) dx (pf p1 p2 p3)) p1 = some (.lst xs1) :=
    upd_in qx q1 (.inr (upd_in q3 q1 (.inr (upd_in q2 q1 (.inr upd_same)))))
  have w2 : upd (upd (upd (upd F1 p1 (.lst xs1)) p2 (.lst xs2)) p3 (.lst xs3)) x (.ins (c.cls 0) dx (pf p1 p2 p3)) p2 = some (.lst xs2) :=
    upd_in qx q2 (.inr (upd_in q3 q2 (.inr upd_same)))
  have w3 : upd (upd (upd (upd F1 p1 (.lst xs1)) p2 (.lst xs2)) p3 (.lst xs3)) x (.ins (c.cls 0) dx (pf p1 p2 p3)) p3 = some (.lst xs3) :=
    upd_in qx q3 (.inr upd_same)
  exact .cons (.ls w1 (r1.mono e4.f)) (.cons (.ls w2 (r2.mono e4.f)) (.cons (.ls w3 (r3.mono e4.f)) .nil))
theorem paired3 {α β : Type} {G : α → β → Prop} {xs : List α} {y z u : β} (h : Paired G xs [y, z, u]) : ∃ x x' x'', xs = [x, x', x''] ∧ G x y ∧ G x' z ∧ G x'' u := by
  cases h with
  | cons r t =>
    obtain ⟨x', x'', rfl, r', r''⟩ := paired2 t
    exact ⟨_, _, _, rfl, r, r', r''⟩
theorem fe_make {fp : List PyData → O PyData} {t : TA} {g : Rho → O (List PyData)} {E : XK} (hW : c.W = fun cl d _ H => E cl d H) (h : FA K c own false t g) : FE K c own b (tMake (c.cls 0) (spI K c.cls c.xc fp) [] E t) (gMake fp g) := FE.any fun σ H F ρ Q S q => by
  refine h σ H F ρ _ S (OPost.imp (fun ds q vs H1 F1 e1 r1 => ?_) (fun _ q => q) (OPost.bind q))
  split at q
  · rename_i hn
    obtain ⟨d1, d2, d3, rfl⟩ : ∃ a b c, ds = [a, b, c] := by
      match ds, hn with
      | [a, b, c], _ => exact ⟨a, b, c, rfl⟩
    obtain ⟨v1, v2, v3, rfl, y1, y2, y3⟩ := paired3 (show Paired (Rep1 K c F1 H1) vs [d1, d2, d3] from r1)
    intro x dx nx nd ne
    have sm : Same H1 (upd (upd H1 dx (.own x)) x (.ins (c.cls 0) dx [])) := fun b o z => by
      rw [upd_ne (ne_of_none z nx), upd_ne (ne_of_none z nd)]
      exact z
    refine ⟨x, dx, v1, v2, v3, d1, d2, d3, rfl, upd_same, ?_, ?_⟩
    · exact (RepL.cons (y1.full e1.s) (.cons (y2.full e1.s) (.cons (y3.full e1.s) .nil))).mono sm
    · unfold makeP at q
      cases e : fp [d1, d2, d3] with
      | ex n =>
        rw [e] at q
        exact (show False from q)
      | bad => rw [e] at q; exact (show False from q)
      | ok d =>
        rw [e] at q
        have q : OPost _ _ (match d with
          | .bool true => (match [d1, d2, d3] with
            | [.list ts, .list rs, .list gs] => O.ok (D.prob ts rs gs)
            | _ => .bad)
          | .bool false => .ex 1
          | _ => .bad) := q
        split at q
        · split at q
          · rename_i ts rs gs eq
            cases eq
            obtain ⟨a1, xs1, rfl, h1, z1⟩ := y1.lst e1.s
            obtain ⟨a2, xs2, rfl, h2, z2⟩ := y2.lst e1.s
            obtain ⟨a3, xs3, rfl, h3, z3⟩ := y3.lst e1.s
            refine ⟨true, rfl, ?_⟩
            rw [if_pos rfl]
            refine ⟨a1, a2, a3, xs1, xs2, xs3, rfl, rfl, rfl, sm _ _ h1, sm _ _ h2, sm _ _ h3, fun H2 p1 p2 p3 k n1 n2 n3 q1 q2 q3 qx => ⟨rfl, ?_⟩⟩
            obtain ⟨F2, e2, r2⟩ := made_ext (c := c) e1.s nx nd ne k n1 n2 n3 q1 q2 q3 qx z1 z2 z3
            exact q _ _ _ (e1.trans e2) r2
          · exact q.elim
        · refine ⟨false, rfl, ?_⟩
          rw [if_neg Bool.false_ne_true]
          intro H2 s2
          have := q H2 (e1.h.trans (sm.trans s2))
          rw [hW] at this
          exact this
        · exact q.elim
  · exact q.elim
end
end Fn

set_option Elab.async false
set_option linter.all false
set_option maxRecDepth 100000
/-! What comes of the words at a state: equations for simp; loops. -/
namespace Fn
open PySem PySem.Spec L2

/-! the line of lengths is kept shut -/
theorem lim_ge {n : Nat} (h : n ≤ 1000) : n ≤ lim := by unfold lim; omega
theorem lim_gt {n : Nat} (h : n < 1000) : n < lim := by unfold lim; omega
theorem limI_ge {n : Int} (h : n ≤ 1000) : n ≤ (lim : Int) := by unfold lim; omega
theorem limI_neg {n : Int} (h : -1000 ≤ n) : -(lim : Int) ≤ n := by unfold lim; omega
@[simp] theorem lim_ge0 : 0 ≤ lim := lim_ge (by decide)
@[simp] theorem lim_ge1 : 1 ≤ lim := lim_ge (by decide)
@[simp] theorem lim_ge2 : 2 ≤ lim := lim_ge (by decide)
@[simp] theorem lim_ge3 : 3 ≤ lim := lim_ge (by decide)
@[simp] theorem lim_ge4 : 4 ≤ lim := lim_ge (by decide)
@[simp] theorem lim_ge5 : 5 ≤ lim := lim_ge (by decide)
@[simp] theorem lim_ge6 : 6 ≤ lim := lim_ge (by decide)
theorem rng1_nat {m : Nat} (h : m ≤ 1000) : rng1 [.int m] = .ok (rangeD 0 m) := by
  show (if -(lim : Int) ≤ (m : Int) ∧ (m : Int) ≤ lim then O.ok (rangeD 0 (m : Int).toNat) else .bad) = _
  rw [if_pos ⟨limI_neg (by omega), limI_ge (by omega)⟩, Int.toNat_natCast]
section
variable (ρ : Rho) (d e : PyData) (ds es : List PyData) (g h u w : Rho → O PyData) (ga gb : Rho → O PyData) (gs : Rho → O (List PyData)) (t t' : Rho → O Bool) (r s : Rho → R) (i j k : Int) (n m : Nat)
@[simp] theorem bind_ok {α β : Type} (a : α) (f : α → O β) : O.bind (.ok a) f = f a := rfl
@[simp] theorem bind_ex {α β : Type} (n : Nat) (f : α → O β) : O.bind (.ex n) f = .ex n := rfl
@[simp] theorem bind_bad {α β : Type} (f : α → O β) : O.bind .bad f = .bad := rfl
@[simp] theorem go_ok {α : Type} (a : α) (f : α → R) : (O.ok a).go f = f a := rfl
@[simp] theorem go_ex {α : Type} (n : Nat) (f : α → R) : (O.ex n : O α).go f = .ex n := rfl
@[simp] theorem go_bad {α : Type} (f : α → R) : (O.bad : O α).go f = .bad := rfl
@[simp] theorem seq_nx (f : Rho → R) : (R.nx ρ).seq f = f ρ := rfl
@[simp] theorem seq_rt (f : Rho → R) : (R.rt d).seq f = .rt d := rfl
@[simp] theorem seq_ex (f : Rho → R) : (R.ex n).seq f = .ex n := rfl
@[simp] theorem seq_bad (f : Rho → R) : R.bad.seq f = .bad := rfl
@[simp] theorem seq_bk (f : Rho → R) : (R.bk ρ).seq f = .bk ρ := rfl
@[simp] theorem seq_ct (f : Rho → R) : (R.ct ρ).seq f = .ct ρ := rfl
@[simp] theorem noEx_ok {α : Type} (a : α) : noEx (.ok a) = .ok a := rfl
@[simp] theorem noEx_ex {α : Type} (n : Nat) : noEx (.ex n : O α) = .bad := rfl
@[simp] theorem noEx_bad {α : Type} : noEx (.bad : O α) = .bad := rfl
@[simp] theorem gC_ap : gC d ρ = .ok d := rfl
@[simp] theorem g2_ap (op : PyData → PyData → O PyData) : g2 op ga gb ρ = (ga ρ).bind fun d => (gb ρ).bind fun e => op d e := rfl
@[simp] theorem g1_ap (op : PyData → O PyData) : g1 op ga ρ = (ga ρ).bind op := rfl
@[simp] theorem gNilA_ap : gNilA ρ = .ok [] := rfl
@[simp] theorem gConsA_ap : gConsA g gs ρ = (g ρ).bind fun d => (gs ρ).bind fun ds => .ok (d :: ds) := rfl
@[simp] theorem gCall_ap (f : List PyData → O PyData) : gCall f gs ρ = (gs ρ).bind f := rfl
@[simp] theorem gTup_ap : Fn.gTup gs ρ = (gs ρ).bind fun ds => if ds.length ≤ lim then .ok (.tuple ds) else .bad := rfl
@[simp] theorem gLst_ap : gLst gs ρ = (gs ρ).bind fun ds => if ds.length ≤ lim then .ok (.list ds) else .bad := rfl
@[simp] theorem gBl_ap : gBl g ρ = (g ρ).bind fun d => match d with
  | .bool k => .ok k
  | _ => .bad := rfl
@[simp] theorem gTru_ap : gTru g ρ = (g ρ).bind truD := rfl
@[simp] theorem gNotT_ap : gNotT t ρ = (t ρ).bind fun k => .ok (!k) := rfl
@[simp] theorem gAndT_ap : gAndT t t' ρ = (t ρ).bind fun k => if k = true then t' ρ else .ok false := rfl
@[simp] theorem gOrT_ap : gOrT t t' ρ = (t ρ).bind fun k => if k = true then .ok true else t' ρ := rfl
@[simp] theorem gAndV_ap : gAndV g h ρ = (gBl g ρ).bind fun k => if k = true then h ρ else .ok (.bool false) := rfl
@[simp] theorem gOrV_ap : gOrV g h ρ = (gBl g ρ).bind fun k => if k = true then .ok (.bool true) else h ρ := rfl
@[simp] theorem gNotV_ap : gNotV g ρ = (gBl g ρ).bind fun k => .ok (.bool (!k)) := rfl
@[simp] theorem gIf_ap : gIf t g h ρ = (t ρ).bind fun k => if k = true then g ρ else h ρ := rfl
@[simp] theorem g2L_ap (op : PyData → PyData → O (List PyData)) : g2L op ga gb ρ = (ga ρ).bind fun d => (gb ρ).bind fun e => (op d e).bind fun ds => .ok (.list ds) := rfl
@[simp] theorem gNoP_ap : gNoP ρ = .ok none := rfl
@[simp] theorem gPart_ap : gPart g ρ = (g ρ).bind fun d => match d with
  | .int i => .ok (some i)
  | _ => .bad := rfl
@[simp] theorem gSl_ap (gl gh : Rho → O (Option Int)) : gSl g gl gh ρ = (g ρ).bind fun d => (gl ρ).bind fun lo => (gh ρ).bind fun hi => dSl d lo hi := rfl
@[simp] theorem gSlL_ap (gl gh : Rho → O (Option Int)) : gSlL g gl gh ρ = (g ρ).bind fun d => (gl ρ).bind fun lo => (gh ρ).bind fun hi => dSlL d lo hi := rfl
@[simp] theorem gListOf_ap : gListOf gs ρ = (gs ρ).bind fun ds => (bListL ds).bind fun es => .ok (.list es) := rfl
@[simp] theorem gIsi_ap (T : String) : gIsi T g ρ = (g ρ).bind (bIsi T) := rfl
@[simp] theorem gChain_ap (op op' : PyData → PyData → O PyData) : gChain op op' g h u ρ = (g ρ).bind fun d => (h ρ).bind fun e => (noEx (op d e)).bind fun z => match z with
  | .bool k => if k = true then (u ρ).bind fun f => noEx (op' e f) else .ok (.bool false)
  | _ => .bad := rfl
@[simp] theorem gFn_ap (f : List PyData → O PyData) : gFn n f gs ρ = (gs ρ).bind fun ds => if ds.length = n then f ds else .bad := rfl
@[simp] theorem gFnB_ap (f : List PyData → O PyData) : gFnB n f gs ρ = (gs ρ).bind fun ds => if ds.length = n then (f ds).bind flatO else .bad := rfl
@[simp] theorem gMake_ap (f : List PyData → O PyData) : gMake f gs ρ = (gs ρ).bind fun ds => if ds.length = 3 then makeP f ds else .bad := rfl
@[simp] theorem gNext_ap : gNext ρ = .nx ρ := rfl
@[simp] theorem gSeq_ap : gSeq r s ρ = (r ρ).seq s := rfl
@[simp] theorem gIfS_ap : gIfS t r s ρ = (t ρ).go fun k => if k = true then r ρ else s ρ := rfl
@[simp] theorem gSet_ap : gSet n g ρ = (g ρ).go fun d => .nx (ρ.set n (some d)) := rfl
@[simp] theorem gAsg_ap (f : PyData → Rho → O Rho) : gAsg f g ρ = (g ρ).go fun d => (f d ρ).go .nx := rfl
@[simp] theorem aName_ap : aName n d ρ = .ok (ρ.set n (some d)) := rfl
@[simp] theorem aTup_ap (f : List PyData → Rho → O Rho) : aTup f (.tuple ds) ρ = f ds ρ := rfl
@[simp] theorem aNil_ap : aNil [] ρ = .ok ρ := rfl
@[simp] theorem aCons_ap (f : PyData → Rho → O Rho) (fs : List PyData → Rho → O Rho) : aCons f fs (d :: ds) ρ = (f d ρ).bind fun ρ' => fs ds ρ' := rfl
@[simp] theorem gDrop_ap : gDrop g ρ = (g ρ).go fun _ => .nx ρ := rfl
@[simp] theorem gRet_ap : gRet g ρ = (g ρ).go .rt := rfl
@[simp] theorem gRetN_ap : gRetN ρ = .rt .none := rfl
@[simp] theorem gRaise_ap : gRaise n ρ = .ex n := rfl
@[simp] theorem gBreak_ap : gBreak ρ = .bk ρ := rfl
@[simp] theorem gCont_ap : gCont ρ = .ct ρ := rfl
@[simp] theorem gAppend_ap : gAppend n g ρ = (lsAt n ρ).go fun _ => (g ρ).go fun d => (lsAt n ρ).go fun ds => if ds.length < lim then .nx (ρ.set n (some (.list (ds ++ [d])))) else .bad := rfl
@[simp] theorem gExtend_ap : gExtend n g ρ = (lsAt n ρ).go fun _ => (g ρ).go fun d => match d with
  | .list es => (lsAt n ρ).go fun ds => if ds.length + es.length ≤ lim then .nx (ρ.set n (some (.list (ds ++ es)))) else .bad
  | _ => .bad := rfl
@[simp] theorem gClear_ap : gClear n ρ = (lsAt n ρ).go fun _ => .nx (ρ.set n (some (.list []))) := rfl
@[simp] theorem gPopSet_ap : gPopSet m n ρ = (lsAt n ρ).go fun ds => match ds[ds.length - 1]? with
  | some d => .nx ((ρ.set n (some (.list ds.dropLast))).set m (some d))
  | none => .bad := rfl
@[simp] theorem gSetIx_ap : gSetIx n h g ρ = (g ρ).go fun d => (lsAt n ρ).go fun _ => (h ρ).go fun k => match k with
  | .int k => (lsAt n ρ).go fun ds => match ixN ds.length k with
    | some j => .nx (ρ.set n (some (.list (ds.set j d))))
    | none => .bad
  | _ => .bad := rfl
theorem gFor_ap (f : PyData → Rho → O Rho) : gFor f gs r ρ = (gs ρ).go fun ds => forL f r ds ρ := rfl
@[simp] theorem gItA_ap : gItA g ρ = (g ρ).bind itemsA := rfl
@[simp] theorem gRng1_ap : gRng1 gs ρ = (gs ρ).bind rng1 := rfl
@[simp] theorem gRng2_ap : gRng2 gs ρ = (gs ρ).bind rng2 := rfl
@[simp] theorem gEnum_ap : gEnum gs ρ = (gs ρ).bind enumI := rfl
@[simp] theorem gZip_ap : gZip gs ρ = (gs ρ).bind zipI := rfl
@[simp] theorem gYes_ap : gYes ρ = .ok true := rfl
@[simp] theorem gFld_ap (f : Str) : gFld f n g ρ = (g ρ).bind fun d => match d with
  | .dict ((.bool true, .int j) :: gs) => if j = (n : Int) then (match fieldD f gs with
    | some e => .ok e
    | none => .bad) else .bad
  | _ => .bad := rfl
theorem gComp_ap (vs : List Nat) (f : PyData → Rho → O Rho) (gi : Rho → O (List PyData)) : gComp vs f t g gi ρ = (gi ρ).bind fun ds => if ds.length ≤ lim then (compL f t g (wipeR ρ vs) ds).bind fun ys => .ok (.list ys) else .bad := rfl
@[simp] theorem wipeR_nil : wipeR ρ [] = ρ := rfl
@[simp] theorem wipeR_cons (v : Nat) (vs : List Nat) : wipeR ρ (v :: vs) = (wipeR ρ vs).set v none := rfl
/-! slots -/
@[simp] theorem gVar_0 : gVar 0 (some d :: ρ) = .ok d := rfl
@[simp] theorem gVar_s (x : Option PyData) : gVar (n + 1) (x :: ρ) = gVar n ρ := rfl
@[simp] theorem lsAt_0 : lsAt 0 (some (.list ds) :: ρ) = .ok ds := rfl
@[simp] theorem lsAt_s (x : Option PyData) : lsAt (n + 1) (x :: ρ) = lsAt n ρ := rfl
/-! operators -/
@[simp] theorem dAdd_int : dAdd (.int i) (.int j) = .ok (.int (i + j)) := rfl
@[simp] theorem dSub_int : dSub (.int i) (.int j) = .ok (.int (i - j)) := rfl
@[simp] theorem dMul_int : dMul (.int i) (.int j) = if mulOk i j = true then .ok (.int (i * j)) else .bad := rfl
@[simp] theorem dMod_int : dMod (.int i) (.int j) = if 0 < j then .ok (.int (i % j)) else .bad := rfl
@[simp] theorem dFdiv_int : dFdiv (.int i) (.int j) = if 0 < j ∧ j.natAbs.log2 < 9000 then .ok (.int (i / j)) else .bad := rfl
@[simp] theorem dNeg_int : dNeg (.int i) = .ok (.int (-i)) := rfl
@[simp] theorem dLt_int : dLt (.int i) (.int j) = .ok (.bool (decide (i < j))) := rfl
@[simp] theorem dLe_int : dLe (.int i) (.int j) = .ok (.bool (decide (i ≤ j))) := rfl
@[simp] theorem dGt_int : dGt (.int i) (.int j) = .ok (.bool (decide (j < i))) := rfl
@[simp] theorem dGe_int : dGe (.int i) (.int j) = .ok (.bool (decide (j ≤ i))) := rfl
@[simp] theorem dEq_int : dEq (.int i) (.int j) = .ok (.bool (decide (i = j))) := by
  have : PyData.eqv (.int i) (.int j) = decide (i = j) := by
    show (i == j) = decide (i = j)
    rfl
  show (if (true || _) = true then O.ok (PyData.bool (PyData.eqv (.int i) (.int j))) else .bad) = _
  rw [this]
  rfl
@[simp] theorem dNe_int : dNe (.int i) (.int j) = .ok (.bool (!decide (i = j))) := by
  have : PyData.eqv (.int i) (.int j) = decide (i = j) := by
    show (i == j) = decide (i = j)
    rfl
  show (if (true || _) = true then O.ok (PyData.bool (!PyData.eqv (.int i) (.int j))) else .bad) = _
  rw [this]
  rfl
@[simp] theorem dCat_l : dCat (.list ds) (.list es) = if ds.length + es.length ≤ lim then .ok (ds ++ es) else .bad := rfl
@[simp] theorem dAdd_l : dAdd (.list ds) (.list es) = if ds.length + es.length ≤ lim then .ok (.list (ds ++ es)) else .bad := rfl
@[simp] theorem dRep_l : dRep (.list ds) (.int k) = repL ds k := rfl
@[simp] theorem dMul_l : dMul (.list ds) (.int k) = (repL ds k).bind fun ys => .ok (.list ys) := rfl
@[simp] theorem dSl_l (lo hi : Option Int) : dSl (.list ds) lo hi = .ok (.list (cutL ds lo hi)) := rfl
@[simp] theorem dSlL_l (lo hi : Option Int) : dSlL (.list ds) lo hi = .ok (.list (cutL ds lo hi)) := rfl
@[simp] theorem bLen_l : bLen [.list ds] = .ok (.int ds.length) := rfl
@[simp] theorem bLen_t : bLen [.tuple ds] = .ok (.int ds.length) := rfl
@[simp] theorem bLen_r : bLen [D.ro ds] = .ok (.int ds.length) := rfl
@[simp] theorem bListL_l : bListL [.list ds] = .ok ds := rfl
@[simp] theorem bListL_t : bListL [.tuple ds] = .ok ds := rfl
@[simp] theorem bTup_l : bTup [.list ds] = .ok (.tuple ds) := rfl
@[simp] theorem bTup_t : bTup [.tuple ds] = .ok (.tuple ds) := rfl
@[simp] theorem bMin_2 : bMin [.int i, .int j] = .ok (.int (if j < i then j else i)) := rfl
@[simp] theorem bMax_2 : bMax [.int i, .int j] = .ok (.int (if j > i then j else i)) := rfl
@[simp] theorem bInt_b (b : Bool) : bInt [.bool b] = .ok (.int (if b = true then 1 else 0)) := rfl
@[simp] theorem bInt_i : bInt [.int i] = .ok (.int i) := rfl
@[simp] theorem itemsA_l : itemsA (.list ds) = .ok ds := rfl
@[simp] theorem itemsA_t : itemsA (.tuple ds) = .ok ds := rfl
theorem rng1_i : rng1 [.int j] = if -(lim : Int) ≤ j ∧ j ≤ lim then .ok (rangeD 0 j.toNat) else .bad := rfl
@[simp] theorem enumI_l : enumI [.list ds] = .ok (enumD ds) := rfl
@[simp] theorem zipI_l : zipI [.list ds, .list es] = .ok (zipD ds es) := rfl
@[simp] theorem truD_b (b : Bool) : truD (.bool b) = .ok b := rfl
@[simp] theorem truD_n : truD .none = .ok false := rfl
@[simp] theorem outR_rt : outR (.rt d) = .ok d := rfl
@[simp] theorem outR_nx : outR (.nx ρ) = .ok .none := rfl
@[simp] theorem outR_ex : outR (.ex n) = .ex n := rfl
@[simp] theorem outR_bad : outR .bad = .bad := rfl
@[simp] theorem flatO_i : flatO (.int i) = .ok (.int i) := rfl
@[simp] theorem flatO_b (b : Bool) : flatO (.bool b) = .ok (.bool b) := rfl
@[simp] theorem flatO_n : flatO .none = .ok .none := rfl
theorem dIx_l {v : PyData} (h : atI ds i = some v) : dIx (.list ds) (.int i) = .ok v := by
  show (match atI ds i with
    | some d => O.ok d
    | none => .bad) = _
  rw [h]
theorem dIx_t {v : PyData} (h : atI ds i = some v) : dIx (.tuple ds) (.int i) = .ok v := by
  show (match atI ds i with
    | some d => O.ok d
    | none => .bad) = _
  rw [h]
theorem dIx_r {v : PyData} (h : atI ds i = some v) : dIx (D.ro ds) (.int i) = .ok v := by
  show (match atI ds i with
    | some d => O.ok d
    | none => .bad) = _
  rw [h]
end
/-- a product within the line: one side is small -/
theorem mulOk_l {i j : Int} (h : -(2 ^ 64) < i ∧ i < 2 ^ 64) : mulOk i j = true := by
  unfold mulOk
  rw [decide_eq_true h]
  simp
theorem mulOk_r {i j : Int} (h : -(2 ^ 64) < j ∧ j < 2 ^ 64) : mulOk i j = true := by
  unfold mulOk
  rw [decide_eq_true h]
  simp
theorem atI_of {α : Type} {xs : List α} {i : Int} (h0 : 0 ≤ i) (h : i < xs.length) : atI xs i = some (xs[i.toNat]'(by omega)) := by
  unfold atI ixN
  rw [if_pos h0, if_pos h]
  exact List.getElem?_eq_getElem _
theorem atI_neg {α : Type} {xs : List α} {i : Int} (h0 : i < 0) (h : -(xs.length : Int) ≤ i) : atI xs i = some (xs[(i + xs.length).toNat]'(by omega)) := by
  unfold atI ixN
  rw [if_neg (by omega), if_pos h]
  exact List.getElem?_eq_getElem _
theorem ixN_of {n : Nat} {i : Int} (h0 : 0 ≤ i) (h : i < n) : ixN n i = some i.toNat := by
  unfold ixN
  rw [if_pos h0, if_pos h]
/-! ### loops -/
theorem forL_inv {f : PyData → Rho → O Rho} {body : Rho → R} (I : Nat → Rho → Prop) : ∀ (ds : List PyData) (k : Nat) (ρ : Rho), I k ρ → (∀ i d ρ, ds[i]? = some d → I (k + i) ρ → ∃ ρ1 ρ2, f d ρ = .ok ρ1 ∧ body ρ1 = .nx ρ2 ∧ I (k + i + 1) ρ2) → ∃ ρ', forL f body ds ρ = .nx ρ' ∧ I (k + ds.length) ρ'
  | [], k, ρ, h, _ => ⟨ρ, rfl, h⟩
  | d :: ds, k, ρ, h, hs => by
    obtain ⟨ρ1, ρ2, h1, h2, h3⟩ := hs 0 d ρ rfl h
    obtain ⟨ρ', h4, h5⟩ := forL_inv I ds (k + 1) ρ2 h3 fun i e τ he hi => by
      have e1 : k + 1 + i = k + (i + 1) := by omega
      rw [e1] at hi ⊢
      exact hs (i + 1) e τ he hi
    refine ⟨ρ', ?_, by rw [List.length_cons]; have e1 : k + (ds.length + 1) = k + 1 + ds.length := by omega
                       rw [e1]; exact h5⟩
    unfold forL
    rw [h1, O.go_ok, h2]
    exact h4
theorem for_inv {f : PyData → Rho → O Rho} {body : Rho → R} {ds : List PyData} {ρ : Rho} (I : Nat → Rho → Prop) (h0 : I 0 ρ) (hs : ∀ i d ρ, ds[i]? = some d → I i ρ → ∃ ρ1 ρ2, f d ρ = .ok ρ1 ∧ body ρ1 = .nx ρ2 ∧ I (i + 1) ρ2) :
    ∃ ρ', forL f body ds ρ = .nx ρ' ∧ I ds.length ρ' := by
  have := forL_inv I ds 0 ρ h0 (fun i d ρ hd hi => by rw [Nat.zero_add] at hi ⊢; exact hs i d ρ hd hi)
  rw [Nat.zero_add] at this
  exact this
/-- a loop that may leave by a return -/
theorem forL_leave {f : PyData → Rho → O Rho} {body : Rho → R} (I : Nat → Rho → Prop) (P : R → Prop) : ∀ (ds : List PyData) (k : Nat) (ρ : Rho), I k ρ →
    (∀ i d ρ, ds[i]? = some d → I (k + i) ρ → ∃ ρ1, f d ρ = .ok ρ1 ∧ ((∃ ρ2, (body ρ1 = .nx ρ2 ∨ body ρ1 = .ct ρ2) ∧ I (k + i + 1) ρ2) ∨ (∃ v, body ρ1 = .rt v ∧ P (.rt v)) ∨ (∃ ρ2, body ρ1 = .bk ρ2 ∧ P (.nx ρ2)))) → (∀ ρ, I (k + ds.length) ρ → P (.nx ρ)) → P (forL f body ds ρ)
  | [], k, ρ, h, _, hp => hp ρ h
  | d :: ds, k, ρ, h, hs, hp => by
    have rest : ∀ ρ2, I (k + 1) ρ2 → P (forL f body ds ρ2) := fun ρ2 h3 => by
      refine forL_leave I P ds (k + 1) ρ2 h3 (fun i e τ he hi => ?_) fun τ ht => hp τ ?_
      · have e1 : k + 1 + i = k + (i + 1) := by omega
        rw [e1] at hi ⊢
        exact hs (i + 1) e τ he hi
      · rw [List.length_cons]
        have e1 : k + (ds.length + 1) = k + 1 + ds.length := by omega
        rw [e1]; exact ht
    obtain ⟨ρ1, h1, h2⟩ := hs 0 d ρ rfl h
    unfold forL
    rw [h1, O.go_ok]
    rcases h2 with ⟨ρ2, h2 | h2, h3⟩ | ⟨v, h2, h3⟩ | ⟨ρ2, h2, h3⟩
    · rw [h2]; exact rest ρ2 h3
    · rw [h2]; exact rest ρ2 h3
    · rw [h2]; exact h3
    · rw [h2]; exact h3
theorem for_leave {f : PyData → Rho → O Rho} {body : Rho → R} {ds : List PyData} {ρ : Rho} (I : Nat → Rho → Prop) (P : R → Prop) (h0 : I 0 ρ)
    (hs : ∀ i d ρ, ds[i]? = some d → I i ρ → ∃ ρ1, f d ρ = .ok ρ1 ∧ ((∃ ρ2, (body ρ1 = .nx ρ2 ∨ body ρ1 = .ct ρ2) ∧ I (i + 1) ρ2) ∨ (∃ v, body ρ1 = .rt v ∧ P (.rt v)) ∨ (∃ ρ2, body ρ1 = .bk ρ2 ∧ P (.nx ρ2)))) (hp : ∀ ρ, I ds.length ρ → P (.nx ρ)) : P (forL f body ds ρ) :=
  forL_leave I P ds 0 ρ h0 (fun i d ρ hd hi => by rw [Nat.zero_add] at hi ⊢; exact hs i d ρ hd hi) (fun ρ h => hp ρ (by rw [Nat.zero_add] at h; exact h))
/-! ### comprehensions -/
theorem compL_map {f : PyData → Rho → O Rho} {t : Rho → O Bool} {e : Rho → O PyData} {ρ : Rho} (y : PyData → PyData) : ∀ (ds : List PyData), (∀ d ∈ ds, ∃ ρ1, f d ρ = .ok ρ1 ∧ t ρ1 = .ok true ∧ e ρ1 = .ok (y d)) → compL f t e ρ ds = .ok (ds.map y)
  | [], _ => rfl
  | d :: ds, h => by
    obtain ⟨ρ1, h1, h2, h3⟩ := h d List.mem_cons_self
    unfold compL
    rw [h1, O.bind_ok, h2]
    show (noEx (e ρ1)).bind _ = _
    rw [h3]
    show (compL f t e ρ ds).bind _ = _
    rw [compL_map y ds fun d hd => h d (List.mem_cons_of_mem _ hd)]
    rfl
theorem compL_filter {f : PyData → Rho → O Rho} {t : Rho → O Bool} {e : Rho → O PyData} {ρ : Rho} (p : PyData → Bool) (y : PyData → PyData) : ∀ (ds : List PyData), (∀ d ∈ ds, ∃ ρ1, f d ρ = .ok ρ1 ∧ t ρ1 = .ok (p d) ∧ (p d = true → e ρ1 = .ok (y d))) → compL f t e ρ ds = .ok ((ds.filter p).map y)
  | [], _ => rfl
  | d :: ds, h => by
    obtain ⟨ρ1, h1, h2, h3⟩ := h d List.mem_cons_self
    have ih := compL_filter p y ds fun d hd => h d (List.mem_cons_of_mem _ hd)
    unfold compL
    rw [h1, O.bind_ok, h2]
    show (if p d = true then (noEx (e ρ1)).bind _ else compL f t e ρ ds) = _
    cases hp : p d with
    | true =>
      rw [if_pos rfl, h3 hp, List.filter_cons_of_pos hp]
      show (compL f t e ρ ds).bind _ = _
      rw [ih]
      rfl
    | false =>
      rw [if_neg Bool.false_ne_true, List.filter_cons_of_neg (by rw [hp]; exact Bool.false_ne_true)]
      exact ih
theorem compL_ex_of {f : PyData → Rho → O Rho} {t : Rho → O Bool} {e : Rho → O PyData} {ρ : Rho} (P : PyData → Prop) : ∀ (ds : List PyData), (∀ d ∈ ds, ∃ ρ1 y, f d ρ = .ok ρ1 ∧ t ρ1 = .ok true ∧ e ρ1 = .ok y ∧ P y) → ∃ ys, compL f t e ρ ds = .ok ys ∧ ys.length = ds.length ∧ ∀ y ∈ ys, P y
  | [], _ => ⟨[], rfl, rfl, fun y hy => by cases hy⟩
  | d :: ds, h => by
    obtain ⟨ρ1, y, h1, h2, h3, h4⟩ := h d List.mem_cons_self
    obtain ⟨ys, k1, k2, k3⟩ := compL_ex_of P ds fun d hd => h d (List.mem_cons_of_mem _ hd)
    refine ⟨y :: ys, ?_, by rw [List.length_cons, List.length_cons, k2], fun z hz => ?_⟩
    · unfold compL
      rw [h1, O.bind_ok, h2]
      show (noEx (e ρ1)).bind _ = _
      rw [h3]
      show (compL f t e ρ ds).bind _ = _
      rw [k1]
      rfl
    · rcases List.mem_cons.mp hz with rfl | hz
      · exact h4
      · exact k3 z hz
theorem rangeD_mem {lo : Int} {n : Nat} {d : PyData} (h : d ∈ rangeD lo n) : ∃ i : Nat, i < n ∧ d = .int (lo + i) := by
  unfold rangeD at h
  obtain ⟨i, hi, rfl⟩ := List.mem_map.mp h
  exact ⟨i, List.mem_range.mp hi, rfl⟩
/-- all of them whole numbers with a property -/
theorem ints_of {P : Int → Prop} : ∀ {ys : List PyData}, (∀ y ∈ ys, ∃ k, y = .int k ∧ P k) → ∃ ks : List Int, ys = ks.map PyData.int ∧ ks.length = ys.length ∧ ∀ k ∈ ks, P k
  | [], _ => ⟨[], rfl, rfl, fun k h => by cases h⟩
  | y :: ys, h => by
    obtain ⟨k, rfl, hk⟩ := h y List.mem_cons_self
    obtain ⟨ks, rfl, h2, h3⟩ := ints_of fun z hz => h z (List.mem_cons_of_mem _ hz)
    refine ⟨k :: ks, rfl, by simp, fun z hz => ?_⟩
    rcases List.mem_cons.mp hz with rfl | hz
    · exact hk
    · exact h3 z hz
end Fn
namespace Fn
open PySem PySem.Spec L2
theorem atI_getD {α : Type} {xs : List α} {i : Int} (d : α) (h0 : 0 ≤ i) (h : i < xs.length) : atI xs i = some (xs.getD i.toNat d) := by
  rw [atI_of h0 h, List.getD_eq_getElem?_getD, List.getElem?_eq_getElem (by omega)]
  rfl
theorem atI_map {α β : Type} (f : α → β) (xs : List α) (i : Int) : atI (xs.map f) i = (atI xs i).map f := by
  unfold atI
  rw [List.length_map]
  cases ixN xs.length i with
  | none => rfl
  | some j => exact List.getElem?_map
end Fn
namespace Fn
open PySem PySem.Spec L2
theorem comp_ints {vs : List Nat} {i : Nat} {E : Rho → O PyData} {gi : Rho → O (List PyData)} {ρ : Rho} {ds : List PyData} (P : Int → Prop) (hg : gi ρ = .ok ds) (hn : ds.length ≤ lim)
    (h : ∀ d ∈ ds, ∃ k, E ((wipeR ρ vs).set i (some d)) = .ok (.int k) ∧ P k) : ∃ ks : List Int, gComp vs (aName i) gYes E gi ρ = .ok (.list (ks.map PyData.int)) ∧ ks.length = ds.length ∧ ∀ k ∈ ks, P k := by
  obtain ⟨ys, h1, h2, h3⟩ := compL_ex_of (f := aName i) (t := gYes) (e := E) (ρ := wipeR ρ vs) (fun y => ∃ k, y = .int k ∧ P k) ds fun d hd => by
    obtain ⟨k, e, p⟩ := h d hd
    exact ⟨_, _, rfl, rfl, e, k, rfl, p⟩
  obtain ⟨ks, rfl, h4, h5⟩ := ints_of h3
  refine ⟨ks, ?_, h4.trans h2, h5⟩
  rw [gComp_ap, hg]
  simp [hn, h1]
theorem comp_map {vs : List Nat} {i : Nat} {E : Rho → O PyData} {gi : Rho → O (List PyData)} {ρ : Rho} {ds : List PyData} (y : PyData → PyData) (hg : gi ρ = .ok ds) (hn : ds.length ≤ lim)
    (h : ∀ d ∈ ds, E ((wipeR ρ vs).set i (some d)) = .ok (y d)) : gComp vs (aName i) gYes E gi ρ = .ok (.list (ds.map y)) := by
  rw [gComp_ap, hg]
  have := compL_map (f := aName i) (t := gYes) (e := E) (ρ := wipeR ρ vs) y ds fun d hd => ⟨_, rfl, rfl, h d hd⟩
  simp [hn, this]
theorem comp_filter {vs : List Nat} {i : Nat} {T : Rho → O Bool} {E : Rho → O PyData} {gi : Rho → O (List PyData)} {ρ : Rho} {ds : List PyData} (p : PyData → Bool) (y : PyData → PyData) (hg : gi ρ = .ok ds) (hn : ds.length ≤ lim)
    (ht : ∀ d ∈ ds, T ((wipeR ρ vs).set i (some d)) = .ok (p d)) (h : ∀ d ∈ ds, p d = true → E ((wipeR ρ vs).set i (some d)) = .ok (y d)) : gComp vs (aName i) T E gi ρ = .ok (.list ((ds.filter p).map y)) := by
  rw [gComp_ap, hg]
  have := compL_filter (f := aName i) (t := T) (e := E) (ρ := wipeR ρ vs) p y ds fun d hd => ⟨_, rfl, ht d hd, h d hd⟩
  simp [hn, this]
theorem rangeD_int (n : Nat) : rangeD 0 n = (List.range n).map fun (i : Nat) => PyData.int i := by
  unfold rangeD
  congr 1
  funext i
  rw [Int.zero_add]
theorem rangeD_at {n i : Nat} {d : PyData} (h : (rangeD 0 n)[i]? = some d) : d = .int i ∧ i < n := by
  refine ⟨by have := rangeD_get h; rw [Int.zero_add] at this; exact this, ?_⟩
  have := (List.getElem?_eq_some_iff.mp h).1
  rw [rangeD_length] at this
  exact this
theorem set_ints (ts : List Int) (j : Nat) (v : Int) : (ts.map PyData.int).set j (.int v) = (ts.set j v).map PyData.int := List.map_set.symm
end Fn
namespace Fn
open PySem PySem.Spec L2
section
variable (i : Int) (b : Bool) (z : Str) (ds : List PyData)
@[simp] theorem isi_int_n : bIsi "int" .none = .ok (.bool false) := rfl
@[simp] theorem isi_int_b : bIsi "int" (.bool b) = .ok (.bool true) := by cases b <;> rfl
@[simp] theorem isi_int_i : bIsi "int" (.int i) = .ok (.bool true) := rfl
@[simp] theorem isi_int_s : bIsi "int" (.str z) = .ok (.bool false) := rfl
@[simp] theorem isi_int_l : bIsi "int" (.list ds) = .ok (.bool false) := rfl
@[simp] theorem isi_int_t : bIsi "int" (.tuple ds) = .ok (.bool false) := rfl
@[simp] theorem isi_bool_n : bIsi "bool" .none = .ok (.bool false) := rfl
@[simp] theorem isi_bool_b : bIsi "bool" (.bool b) = .ok (.bool true) := rfl
@[simp] theorem isi_bool_i : bIsi "bool" (.int i) = .ok (.bool false) := rfl
@[simp] theorem isi_bool_s : bIsi "bool" (.str z) = .ok (.bool false) := rfl
@[simp] theorem isi_bool_l : bIsi "bool" (.list ds) = .ok (.bool false) := rfl
@[simp] theorem isi_bool_t : bIsi "bool" (.tuple ds) = .ok (.bool false) := rfl
@[simp] theorem isi_list_n : bIsi "list" .none = .ok (.bool false) := rfl
@[simp] theorem isi_list_b : bIsi "list" (.bool b) = .ok (.bool false) := rfl
@[simp] theorem isi_list_i : bIsi "list" (.int i) = .ok (.bool false) := rfl
@[simp] theorem isi_list_s : bIsi "list" (.str z) = .ok (.bool false) := rfl
@[simp] theorem isi_list_l : bIsi "list" (.list ds) = .ok (.bool true) := rfl
@[simp] theorem isi_list_t : bIsi "list" (.tuple ds) = .ok (.bool false) := rfl
@[simp] theorem isi_tuple_n : bIsi "tuple" .none = .ok (.bool false) := rfl
@[simp] theorem isi_tuple_b : bIsi "tuple" (.bool b) = .ok (.bool false) := rfl
@[simp] theorem isi_tuple_i : bIsi "tuple" (.int i) = .ok (.bool false) := rfl
@[simp] theorem isi_tuple_s : bIsi "tuple" (.str z) = .ok (.bool false) := rfl
@[simp] theorem isi_tuple_l : bIsi "tuple" (.list ds) = .ok (.bool false) := rfl
@[simp] theorem isi_tuple_t : bIsi "tuple" (.tuple ds) = .ok (.bool true) := rfl
@[simp] theorem isi_str_n : bIsi "str" .none = .ok (.bool false) := rfl
@[simp] theorem isi_str_b : bIsi "str" (.bool b) = .ok (.bool false) := rfl
@[simp] theorem isi_str_i : bIsi "str" (.int i) = .ok (.bool false) := rfl
@[simp] theorem isi_str_s : bIsi "str" (.str z) = .ok (.bool true) := rfl
@[simp] theorem isi_str_l : bIsi "str" (.list ds) = .ok (.bool false) := rfl
@[simp] theorem isi_str_t : bIsi "str" (.tuple ds) = .ok (.bool false) := rfl
end
/-! slices -/
theorem cutL_to {α : Type} (ds : List α) (k : Nat) : cutL ds none (some (k : Int)) = ds.take k := by
  unfold cutL
  rw [HT.sIx_none, HT.sIx_nat, List.drop_zero, Nat.sub_zero]
  by_cases h : k ≤ ds.length
  · rw [Nat.min_eq_left h]
  · rw [Nat.min_eq_right (by omega), List.take_of_length_le (Nat.le_refl _), List.take_of_length_le (by omega)]
theorem cutL_from {α : Type} (ds : List α) (k : Nat) : cutL ds (some (k : Int)) none = ds.drop k := by
  unfold cutL
  rw [HT.sIx_none, HT.sIx_nat]
  by_cases h : k ≤ ds.length
  · rw [Nat.min_eq_left h, List.take_of_length_le (by rw [List.length_drop]; exact Nat.le_refl _)]
  · rw [Nat.min_eq_right (by omega), Nat.sub_self, List.take_zero, List.drop_eq_nil_of_le (by omega)]
theorem cutL_from1 {α : Type} (ds : List α) (k : Nat) : cutL ds (some ((k : Int) + 1)) none = ds.drop (k + 1) := cutL_from ds (k + 1)
theorem cutL_last {α : Type} (ds : List α) : cutL ds none (some (-1)) = ds.dropLast := by
  unfold cutL
  rw [HT.sIx_none, List.drop_zero, Nat.sub_zero]
  have e : HT.sIx ds.length ds.length (some (-1)) = ds.length - 1 := by
    have := HT.clip_eq (-1) ds.length ds.length
    rw [if_pos (by decide)] at this
    omega
  rw [e, ← List.dropLast_eq_take]
/-- one of a written list -/
theorem pick (l : List PyData) (c : Int) (m : Int) (hm : m = l.length) (h0 : 0 < m) : ∃ d, d ∈ l ∧ dIx (.list l) (.int (c % m)) = .ok d := by
  have h1 : 0 ≤ c % m := Int.emod_nonneg _ (by omega)
  have h2 : c % m < m := Int.emod_lt_of_pos _ h0
  have h3 := atI_of (xs := l) h1 (by omega)
  exact ⟨_, List.getElem_mem _, dIx_l _ _ h3⟩
theorem bAll_map {α : Type} (p : α → Bool) (ds : List α) : bAll [.list (ds.map fun d => PyData.bool (p d))] = .ok (.bool (ds.all p)) := by
  have e : (ds.map fun d => PyData.bool (p d)) = (ds.map p).map PyData.bool := by rw [List.map_map]; rfl
  unfold bAll
  rw [e]
  show (match blsD ((ds.map p).map PyData.bool) with
    | some ks => O.ok (PyData.bool (ks.all id))
    | none => .bad) = _
  rw [blsD_map]
  show O.ok (PyData.bool ((ds.map p).all id)) = _
  rw [List.all_map]
  rfl
theorem nat_of {c m : Int} (h : 0 < m) : ∃ j : Nat, c % m = j ∧ (j : Int) < m := by
  have h1 : 0 ≤ c % m := Int.emod_nonneg _ (by omega)
  exact ⟨(c % m).toNat, by omega, by have := Int.emod_lt_of_pos c h; omega⟩
end Fn

set_option Elab.async false
set_option linter.all false
set_option maxRecDepth 100000
/-! Lists of their own behind one list: what is handed in. -/
namespace Fn
open PySem PySem.Spec L2
section
variable {K : PySem.W.Frag} {cls : Nat → Addr} {c : Ct} {own : List Nat} {F H F' H' : Hp} {σ : L2.St} {ρ : Rho} {a p : Addr} {es : List PyData}
/-- a list of its own: at a in H, not in F; its items in F -/
def Own1 (K : PySem.W.Frag) (cls : Nat → Addr) (F H : Hp) (a : Addr) (es : List PyData) : Prop := ∃ ys, H a = some (.lst ys) ∧ F a = none ∧ RepL K cls F ys es
theorem Ext.stays {o : HO} (e : Ext F H F' H') (h1 : H a = some o) (h2 : F a = none) : F' a = none := by
  cases q : F' a with
  | none => rfl
  | some u =>
    rcases e.n a u q with z | z
    · rw [h2] at z; cases z
    · rw [h1] at z; cases z
theorem Own1.ext (o : Own1 K cls F H a es) (e : Ext F H F' H') : Own1 K cls F' H' a es := by
  obtain ⟨ys, h1, h2, h3⟩ := o
  exact ⟨ys, e.h _ _ h1, e.stays h1 h2, h3.mono e.f⟩
theorem Own1.upd {u : HO} (o : Own1 K cls F H a es) (hp : a ≠ p) : Own1 K cls F (L2.upd H p u) a es := by
  obtain ⟨ys, h1, h2, h3⟩ := o
  exact ⟨ys, by rw [upd_ne hp]; exact h1, h2, h3⟩
theorem Own1.ne (o : Own1 K cls F H a es) (hp : H p = none) : a ≠ p := by
  obtain ⟨ys, h1, h2, h3⟩ := o
  exact ne_of_none h1 hp
theorem paired_imp {α β : Type} {R R' : α → β → Prop} : ∀ {xs : List α} {ys : List β}, Paired R xs ys → (∀ x y, x ∈ xs → R x y → R' x y) → Paired R' xs ys
  | _, _, .nil, _ => .nil
  | _, _, .cons r t, h => .cons (h _ _ List.mem_cons_self r) (paired_imp t fun x y m => h x y (List.mem_cons_of_mem _ m))
theorem paired_len {α β : Type} {R : α → β → Prop} : ∀ {xs : List α} {ys : List β}, Paired R xs ys → xs.length = ys.length
  | _, _, .nil => rfl
  | _, _, .cons _ t => by rw [List.length_cons, List.length_cons, paired_len t]
theorem paired_get {α β : Type} {R : α → β → Prop} : ∀ {xs : List α} {ys : List β} {k : Nat} {x : α}, Paired R xs ys → xs[k]? = some x → ∃ y, ys[k]? = some y ∧ R x y
  | _, _, k, x, .nil, h => by cases h
  | _, _, 0, x, .cons r t, h => by cases h; exact ⟨_, rfl, r⟩
  | _, _, k + 1, x, .cons r t, h => paired_get (k := k) t h
theorem yes_rd {Q : Bool → Hp → Prop} (h : Q true H) : tYes σ H Q := h
theorem ifT {A B : Prop} (h : A) : if true = true then A else B := by
  rw [if_pos rfl]
  exact h
theorem rd_copies {i : Nat} {wi : TI} {gi : Rho → O (List PyData)} {Q : VK} (hi : FI K c own wi gi) (hio : own.contains i = false) (S : Sim K c.cls c.B own σ H F ρ) (hl : i < ρ.length) {ds : List PyData} {ess : List (List PyData)} (hg : gi ρ = .ok ds) (hn : ds.length ≤ 1000)
    (hd : Paired (fun d es => d = PyData.list es ∨ d = PyData.tuple es) ds ess)
    (q : ∀ p as H' F', Ext F H F' H' → H p = none → F' p = none → (∀ a ∈ as, H a = none) → as.Nodup → p ∉ as → H' p = some (.lst (as.map V.ref)) → Paired (Own1 K c.cls F' H') as ess → Q (.ref p) H') :
    tLc wi (gName i) tYes (tCB (rListOf K) (tCons (tVar i) tNil)) [i] σ H Q := by
  refine hi σ H F ρ _ S ?_
  rw [hg]
  intro J H1 F1 e1 it A hA
  have S1 := S.ext e1
  have hel := paired_len hd
  refine ⟨fun k m H2 => m = ds.length - k ∧ k ≤ ds.length ∧ ∃ F2 as, Ext F1 H1 F2 H2 ∧ H2 A = some (.lst (as.map V.ref)) ∧ F2 A = none ∧ Paired (Own1 K c.cls F2 H2) as (ess.take k) ∧ as.Nodup ∧ A ∉ as ∧ (∀ a ∈ as, H1 a = none) ∧ as.length = k,
    ⟨ds.length, by omega, Nat.zero_le _, F1, [], Ext.newO e1.s hA, upd_same, e1.s.free hA, by rw [List.take_zero]; exact .nil, List.nodup_nil, List.not_mem_nil, fun _ h => absurd h List.not_mem_nil, rfl⟩, ?_⟩
  rintro k m H2 ⟨rfl, hle, F2, as, e2, hD, hF, hp, hnd, hna, hnew, hlen⟩
  obtain ⟨i1, i2, i3⟩ := it F2 H2 e2.f e2.s k
  by_cases hlt : k < ds.length
  · refine .inr ⟨i1 hlt, fun H3 => ∃ F3 as', Ext F1 H1 F3 H3 ∧ H3 A = some (.lst (as'.map V.ref)) ∧ F3 A = none ∧ Paired (Own1 K c.cls F3 H3) as' (ess.take (k + 1)) ∧ as'.Nodup ∧ A ∉ as' ∧ (∀ a ∈ as', H1 a = none) ∧ as'.length = k + 1,
      fun H3 z => ⟨ds.length - (k + 1), by omega, rfl, hlt, z⟩, fun x H3 y => ?_⟩
    obtain ⟨F3, e3, r3⟩ := i3 x H3 ds[k] (List.getElem?_eq_getElem hlt) y
    have hk : k < ess.length := by omega
    obtain ⟨es, he, hdk⟩ := paired_get hd (List.getElem?_eq_getElem hlt)
    have e13 := e2.trans e3
    have S3 := (S1.ext e13).wipe [i]
    have hlw : i < (wipeR ρ [i]).length := by
      show i < (ρ.set i none).length
      rw [List.length_set]
      exact hl
    refine fc_name (K := K) (c := c.noW) (own := own) (i := i) (vs := [i]) hio (by simp) x ds[k] (L2.wipe σ [i]) H3 F3 (wipeR ρ [i]) _ S3 r3 ?_
    intro σ4 w4 S4
    refine ⟨w4.trans (wipe_wipe σ [i]), ?_⟩
    refine yes_rd (ifT ?_)
    obtain ⟨v, hv, rv⟩ := S4.fro i ds[k] (fun z => by rw [List.contains_iff_mem.mpr z] at hio; cases hio) (by rw [List.getElem?_set]; simp [hl])
    obtain ⟨b, ys, rfl, hs, ry⟩ : ∃ b ys, v = .ref b ∧ (SqL K H3 b ys ∨ SqT K H3 b ys) ∧ RepL K c.cls F3 ys es := by
      rcases hdk with z | z <;> rw [z] at rv
      · cases rv with
        | ls h r => exact ⟨_, _, rfl, .inl (SqL.of (e13.s _ _ h)), r⟩
      · cases rv with
        | tp h r => exact ⟨_, _, rfl, .inr (Same.tup e13.s h), r⟩
    refine ⟨_, hv, b, ys, rfl, hs, fun l nl => ?_⟩
    have hD3 := e3.h _ _ hD
    have nA : A ≠ l := ne_of_none hD3 nl
    have f3A : F3 A = none := e3.stays hD hF
    have l1 : H1 l = none := e13.h.free nl
    refine ⟨as.map V.ref, by rw [upd_ne nA]; exact hD3, by rw [List.length_map, hlen]; exact lt_lim (lim_gt (by omega)), F3, as ++ [l], (e13.updNew l1 (e13.s.free nl)).updNew hA f3A, by rw [upd_same, List.map_append]; rfl, f3A, ?_, ?_, ?_, ?_, by rw [List.length_append, hlen]; rfl⟩
    · have ht : ess.take (k + 1) = ess.take k ++ [es] := by
        rw [List.take_add_one, he]
        rfl
      rw [ht]
      refine Paired.snoc (paired_imp hp fun b' es' hm o => ?_) ⟨ys, by rw [upd_ne nA.symm]; exact upd_same, e13.s.free nl, ry⟩
      have o3 := o.ext e3
      refine (o3.upd (o3.ne nl)).upd fun z => ?_
      subst z
      exact hna hm
    · rw [List.nodup_append]
      refine ⟨hnd, by simp, fun x hx y hy => ?_⟩
      rw [List.mem_singleton.mp hy]
      intro z
      subst z
      obtain ⟨j, hj⟩ := List.getElem?_of_mem hx
      obtain ⟨_, _, o⟩ := paired_get hp hj
      exact (o.ext e3).ne nl rfl
    · intro z
      rcases List.mem_append.mp z with z | z
      · exact hna z
      · exact nA (List.mem_singleton.mp z)
    · intro b' hb
      rcases List.mem_append.mp hb with z | z
      · exact hnew b' z
      · rw [List.mem_singleton.mp z]; exact l1
  · have : k = ds.length := by omega
    subst this
    refine .inl ⟨i2 rfl, q A as H2 F2 (e1.trans e2) (e1.h.free hA) hF (fun b hb => e1.h.free (hnew b hb)) hnd hna hD ?_⟩
    rw [hel, List.take_length] at hp
    exact hp
end
/-! ### data that may be compared -/
def Nice (n : Nat) (d : PyData) : Prop := plainD d = true ∧ d.canLay0 = true ∧ d.depth ≤ n
theorem Nice.up {n m : Nat} {d : PyData} (h : Nice n d) (hm : n ≤ m) : Nice m d := ⟨h.1, h.2.1, Nat.le_trans h.2.2 hm⟩
theorem nice_int (i : Int) : Nice 0 (.int i) := ⟨rfl, by simp [PyData.canLay0], by simp [PyData.depth]⟩
theorem nice_str {x : Str} (h : PyData.canLay0 (.str x) = true) : Nice 0 (.str x) := ⟨rfl, h, by simp [PyData.depth]⟩
theorem nice_all {n : Nat} : ∀ {ds : List PyData}, (∀ d ∈ ds, Nice n d) → plainAll ds = true ∧ PyData.canLayAll0 ds = true ∧ PyData.depthAll ds ≤ n
  | [], _ => ⟨rfl, by simp [PyData.canLayAll0], by simp [PyData.depthAll]⟩
  | d :: ds, h => by
    obtain ⟨h1, h2, h3⟩ := h d List.mem_cons_self
    obtain ⟨k1, k2, k3⟩ := nice_all fun e he => h e (List.mem_cons_of_mem _ he)
    refine ⟨?_, ?_, ?_⟩
    · unfold plainAll; rw [h1, k1]; rfl
    · unfold PyData.canLayAll0; rw [h2, k2]; rfl
    · unfold PyData.depthAll; exact Nat.max_le.mpr ⟨h3, k3⟩
theorem nice_list {n : Nat} {ds : List PyData} (h : ∀ d ∈ ds, Nice n d) : Nice (n + 1) (.list ds) := by
  obtain ⟨h1, h2, h3⟩ := nice_all h
  refine ⟨?_, ?_, ?_⟩
  · unfold plainD; exact h1
  · unfold PyData.canLay0; exact h2
  · unfold PyData.depth; exact Nat.succ_le_succ h3
theorem nice_tup {n : Nat} {ds : List PyData} (h : ∀ d ∈ ds, Nice n d) : Nice (n + 1) (.tuple ds) := by
  obtain ⟨h1, h2, h3⟩ := nice_all h
  refine ⟨?_, ?_, ?_⟩
  · unfold plainD; exact h1
  · unfold PyData.canLay0; exact h2
  · unfold PyData.depth; exact Nat.succ_le_succ h3
theorem nice_mapI {ks : List Int} : ∀ d ∈ ks.map PyData.int, Nice 0 d := fun d h => by
  obtain ⟨k, _, rfl⟩ := List.mem_map.mp h
  exact nice_int k
theorem Nice.okEq {n : Nat} {d : PyData} (h : Nice n d) (hn : n ≤ 64) : okEq d = true := by
  unfold Fn.okEq SeqAt.shaped
  rw [h.1, h.2.1, decide_eq_true (Nat.le_trans h.2.2 hn)]
  rfl
theorem dEq_self {n : Nat} {d : PyData} (h : Nice n d) (hn : n ≤ 64) : dEq d d = .ok (.bool true) := by
  unfold dEq
  rw [h.okEq hn, SeqAt.eqv_refl d h.2.1, Bool.and_self, Bool.or_true, if_pos rfl]
  try rfl
theorem dNe_self {n : Nat} {d : PyData} (h : Nice n d) (hn : n ≤ 64) : dNe d d = .ok (.bool false) := by
  unfold dNe
  rw [h.okEq hn, SeqAt.eqv_refl d h.2.1, Bool.and_self, Bool.or_true, if_pos rfl]
  try rfl
/-! ### another view of a state -/
section
variable {K : PySem.W.Frag} {cls : Nat → Addr} {B : Hp × Hp} {F H F' H' : Hp} {σ : L2.St} {ρ ρ' : Rho} {a : Addr} {o : HO}
theorem Sim.stray (S : Sim K cls B [] σ H F ρ) (h1 : F a = none) (h2 : B.1 a = none) : Sim K cls B [] σ (L2.upd H a o) F ρ where
  b := S.b.updNew h2 h1
  len := S.len
  fro := S.fro
  ow := fun i d hi => absurd hi List.not_mem_nil
  sep := fun i j d e a hi => absurd hi List.not_mem_nil
theorem Sim.top {H0 : Hp} (S : Sim K cls (H0, H0) [] σ H F ρ) (hl : ρ'.length = ρ.length) (h : ∀ (i : Nat) (d : PyData), ρ'[i]? = some (some d) → ∃ v : V, σ[i]? = some (some v) ∧ Rep K cls H v d) : Sim K cls (H0, H0) [] σ H H ρ' where
  b := ⟨S.b.h, S.b.h, Same.refl _, fun b u e => by
    cases q : H0 b with
    | none => exact .inr q
    | some u' =>
      have := S.b.h b u' q
      rw [e] at this
      cases this
      exact .inl q⟩
  len := by rw [S.len, hl]
  fro := fun i d _ e => h i d e
  ow := fun i d hi => absurd hi List.not_mem_nil
  sep := fun i j d e a hi => absurd hi List.not_mem_nil
theorem Sim.grown (S : Sim K cls B [] σ H F ρ) (h : Same H H') : Sim K cls B [] σ H' F ρ := S.ext ⟨Same.refl _, h, S.b.s.trans h, fun _ _ z => .inl z⟩
theorem Sim.setN (S : Sim K cls B [] σ H F ρ) (i : Nat) {v : V} {d : PyData} (r : Rep K cls F v d) : Sim K cls B [] (σ.set i (some v)) H F (ρ.set i (some d)) := S.set i r
end
theorem nx_rd {f : L2.St → Hp → Prop} {r : VK} {b k : L2.St → Hp → Prop} {σ : L2.St} {H : Hp} (h : f σ H) : Ends.nx ⟨f, r, b, k⟩ σ H := h
theorem seq_rd {t u : TS} {D : Ends} {σ : L2.St} {H : Hp} (h : t { D with nx := u D } σ H) : tSeq t u D σ H := h
theorem asg_rd {t : TE} {i : Nat} {D : Ends} {σ : L2.St} {H : Hp} (h : t σ H fun x H1 => D.nx (σ.set i (some x)) H1) : tAsg t (gName i) D σ H := h
theorem next_rd {D : Ends} {σ : L2.St} {H : Hp} (h : D.nx σ H) : tNext D σ H := h
theorem if_rd {c : TT} {t u : TS} {D : Ends} {σ : L2.St} {H : Hp} (h : c σ H fun b H1 => if b = true then t D σ H1 else u D σ H1) : tIfS c t u D σ H := h
theorem forL_rd {K : PySem.W.Frag} {t : TE} {g : TG} {tb : TS} {D : Ends} {σ : L2.St} {H : Hp} (h : tFor (iList K t) g tb D σ H) : tFor (iAny K t) g tb D σ H := .inl h
end Fn

set_option Elab.async false
set_option linter.all false
set_option maxRecDepth 100000
/-! zip over a tuple and a list (and any other two of these). b: a list, else a tuple. -/
namespace FnZ
open PySem PySem.Spec PyProof.Rows L2
def Sq (b : Bool) (K : PySem.W.Frag) (H : Hp) (a : Addr) (xs : List V) : Prop := match b with
  | true => SqL K H a xs
  | false => SqT K H a xs
def Its (b : Bool) (h : Heap) (a : Addr) (its : Array Value) : Prop := match b with
  | true => h.IsList a its
  | false => h.IsTuple a its
def At (b : Bool) (h : Heap) (it a : Addr) (i : Nat) : Prop := match b with
  | true => h.IsListIter it a i
  | false => h.IsTupleIter it a i
def objI (b : Bool) (a : Addr) : Obj := match b with
  | true => { cls := .type "list_iterator", data := .fields #[.ref a, .int 0 0] }
  | false => { cls := .type "tuple_iterator", data := .fields #[.ref a, .int 0 0] }
theorem begins (b : Bool) (a : Addr) (its : Array Value) : Begins (.ref a) (objI b a) fun h => Its b h a its := by
  cases b with
  | true => exact begins_list a its
  | false => exact begins_tuple a its
theorem draws (b : Bool) {P : Program} {w : World} {A : Around} (hh : A.handled = none) (it a : Addr) (hne : a ≠ it) (its : Array Value) :
    Draws P w A it [it, a] its.size (fun i v => its[i]? = some v) (fun i h => At b h it a i ∧ Its b h a its) := by
  cases b with
  | true => exact Draws.list hh it a hne its
  | false => exact Draws.tuple hh it a hne its
theorem at_new (b : Bool) {h : Heap} {it a : Addr} (e : h.get? it = some (objI b a)) : At b h it a 0 := by
  cases b with
  | true => exact ⟨_, e, rfl, rfl⟩
  | false => exact ⟨_, e, rfl, rfl⟩
theorem At.there {b : Bool} {h : Heap} {it a : Addr} {i : Nat} (t : At b h it a i) : ∃ o, h.get? it = some o ∧ ∀ v, o.data ≠ .cell v := by
  cases b with
  | true =>
    obtain ⟨o, e, _, d⟩ := t
    exact ⟨o, e, fun v q => by rw [d] at q; cases q⟩
  | false =>
    obtain ⟨o, e, _, d⟩ := t
    exact ⟨o, e, fun v q => by rw [d] at q; cases q⟩
theorem At.moved {b : Bool} {h h' : Heap} {it a : Addr} {i : Nat} (t : At b h it a i) (k : ∀ o, h.get? it = some o → h'.get? it = some o) : At b h' it a i := by
  cases b with
  | true => exact Heap.IsListIter.at t k
  | false => exact Heap.IsTupleIter.at t k
section
variable {X : Cx} {pins : List (Addr × Obj)} {s : Shared} {σ : L2.St} {H : Hp} {a : Addr} {xs ys : List V}
theorem vals (b : Bool) (I : Inv X pins σ H s) (h : Sq b X.K H a xs) : ∃ its : List Value, Vals xs its ∧ Its b s.heap a its.toArray := by
  cases b with
  | true =>
    obtain ⟨its, rv, p, _⟩ := I.list h
    exact ⟨its, rv, p.isList⟩
  | false =>
    obtain ⟨its, rv, p, _⟩ := I.tuple h
    exact ⟨its, rv, p⟩
theorem same (b : Bool) (I : Inv X pins σ H s) (h : Sq b X.K H a xs) (h' : Sq b X.K H a ys) : xs = ys := by
  cases b with
  | true => exact I.list_inj h h'
  | false => exact I.tuple_inj h h'
theorem Its.lt {b : Bool} {h : Heap} {its : Array Value} (p : Its b h a its) : a < h.objs.size := by
  cases b with
  | true =>
    obtain ⟨o, e, _⟩ := p
    exact Heap.lt_size e
  | false =>
    obtain ⟨o, e, _⟩ := p
    exact Heap.lt_size e
end
/-- the sequences at a and c as they stand at each turn, in new pairs -/
def Itm (K : PySem.W.Frag) (b1 b2 : Bool) (a c : Addr) : It where
  go := fun i H => ∃ (xs ys : List V) (x y : V), Sq b1 K H a xs ∧ Sq b2 K H c ys ∧ xs[i]? = some x ∧ ys[i]? = some y
  yld := fun i H v H' => ∃ T x y, v = .ref T ∧ H T = none ∧ H' = upd H T (.tup [x, y]) ∧ (∀ xs, Sq b1 K H a xs → xs[i]? = some x) ∧ ∀ ys, Sq b2 K H c ys → ys[i]? = some y
  stop := fun i H => ∃ xs ys : List V, Sq b1 K H a xs ∧ Sq b2 K H c ys ∧ i ≤ xs.length ∧ i ≤ ys.length ∧ (xs.length = i ∨ ys.length = i)
theorem apart {z TI TO i1 i2 a c : Addr} (D : ZipApart z TI TO i1 i2 a c) : ZipSep2 z TI TO i1 i2 [i1, a] [i2, c] where
  TIz := D.TIz
  TOz := D.TOz
  TITO := D.TITO
  TIi1 := D.TIi1
  mem1 := List.mem_cons_self
  zf1 := by simp [D.i1z.symm, D.l1z.symm]
  Tf1 := by simp [D.TOi1, D.l1TO.symm]
  TIi2 := D.TIi2
  mem2 := List.mem_cons_self
  zf2 := by simp [D.i2z.symm, D.l2z.symm]
  Tf2 := by simp [D.TOi2, D.l2TO.symm]
  sep1_2 := by simp [D.i12, D.l2i1.symm]
  sep2_1 := by simp [D.i12.symm, D.l1i2.symm]
theorem turnM {P : Program} {w : World} {K : PySem.W.Frag} (b1 b2 : Bool) {elts : List Expr} {kk : Nat} {tpos : Pos} {a c z TI TO i1 i2 : Addr} (D : ZipApart z TI TO i1 i2 a c) :
    Turn P w K (.Tuple elts kk tpos) (Itm K b1 b2 a c) [z, TI, TO, i1, i2] z (fun i h => IsZip h z TI TO .none ∧ IsPair h TI (.ref i1) (.ref i2) ∧ (∃ x y, IsPair h TO x y) ∧ At b1 h i1 a i ∧ At b2 h i2 c i) where
  mem := List.mem_cons_self
  obj := fun i h st q hq => by
    obtain ⟨hz, hTI, ⟨x, y, hTO⟩, t1, t2⟩ := st
    simp only [List.mem_cons, List.not_mem_nil, or_false] at hq
    rcases hq with rfl | rfl | rfl | rfl | rfl
    · exact ⟨_, hz, fun v => nofun⟩
    · exact ⟨_, hTI, fun v => nofun⟩
    · exact ⟨_, hTO, fun v => nofun⟩
    · exact t1.there
    · exact t2.there
  keep := fun i h h' st k => by
    obtain ⟨hz, hTI, ⟨x, y, hTO⟩, t1, t2⟩ := st
    refine ⟨k z (by simp) _ hz, k TI (by simp) _ hTI, ⟨x, y, k TO (by simp) _ hTO⟩, t1.moved (k i1 (by simp)), t2.moved (k i2 (by simp))⟩
  item := by
    intro X hP hw hK hc i pins s σ H E I hf st hg
    subst hP hw hK
    obtain ⟨hz, hTI, ⟨x0, y0, hTO⟩, t1, t2⟩ := st
    obtain ⟨xs, ys, x, y, sx, sy, hx, hy⟩ := hg
    obtain ⟨us, rx, px⟩ := vals b1 I sx
    obtain ⟨vs, ry, py⟩ := vals b2 I sy
    obtain ⟨u, hu, ru⟩ := rx.get hx
    obtain ⟨v, hv, rv⟩ := ry.get hy
    have hd := I.ok.hd hc
    have old : ∀ q ∈ [z, TI, TO, i1, i2], q < s.heap.objs.size := fun q hq => by
      simp only [List.mem_cons, List.not_mem_nil, or_false] at hq
      rcases hq with rfl | rfl | rfl | rfl | rfl
      · exact Heap.lt_size hz
      · exact Heap.lt_size hTI
      · exact Heap.lt_size hTO
      · exact Heap.lt_size t1.there.choose_spec.1
      · exact Heap.lt_size t2.there.choose_spec.1
    have zs : s.heap.objs.size ≠ z := Nat.ne_of_gt (old z (by simp))
    have lu : i < us.toArray.size := by
      rw [List.size_toArray]
      exact (List.getElem?_eq_some_iff.mp hu).1
    have lv : i < vs.toArray.size := by
      rw [List.size_toArray]
      exact (List.getElem?_eq_some_iff.mp hv).1
    refine wpAny_pyNext_zipD2_item (apart D) (draws b1 (show X.A.in1.handled = none from hd) i1 a D.l1i1 us.toArray) (draws b2 (show X.A.in1.handled = none from hd) i2 c D.l2i2 vs.toArray) hz hTI hTO ⟨t1, px⟩ ⟨t2, py⟩ lu lv ?_
    intro u' v' h1 tk eu ev z1 TO1 q1 q2 T1 _ k1
    obtain rfl : u = u' := by
      have eu : us.toArray[i]? = some u' := eu
      rw [List.getElem?_toArray, hu] at eu
      exact Option.some.inj eu
    obtain rfl : v = v' := by
      have ev : vs.toArray[i]? = some v' := ev
      rw [List.getElem?_toArray, hv] at ev
      exact Option.some.inj ev
    refine ⟨_, rfl, wpAny_letOwnedTupleGo_zip (s := { s with heap := h1, toks := tk }) z1 fun h2 z2 sb => ?_⟩
    have T2 : h2.get? s.heap.objs.size = some { cls := .type "tuple", data := .seq #[u, v] } := (sb.2 _ zs).trans T1
    have fresh : ObjOk X.prog X.w (upd H s.heap.objs.size (.tup [x, y])) h2 s.heap.objs.size (.tup [x, y]) := ⟨show 2 ≤ sizeLine by decide, [u, v], .cons ru (.cons rv .nil), _, T2, rfl, _, rfl⟩
    have I2 : Inv X pins σ (upd H s.heap.objs.size (.tup [x, y])) { s with heap := h2, toks := tk } := I.turnedNew (t' := tk) (ch := [z, TI, TO, i1, i2]) (fun q o hq e => by
      simp only [List.mem_cons, List.not_mem_nil, or_false, not_or] at hq
      obtain ⟨n1, n2, n3, n4, n5⟩ := hq
      exact (sb.2 q n1).trans (k1 q o n1 n3 n4 n5 e)) hf (Nat.le_refl _) fresh
    refine ⟨V.ref s.heap.objs.size, _, I2, rfl, ⟨_, x, y, rfl, I.hok.fresh (Nat.le_refl _), rfl, fun l hl => ?_, fun l hl => ?_⟩, ⟨z2, ?_, ⟨u, v, ?_⟩, ?_, ?_⟩, fun q hq => ?_⟩
    · rw [same b1 I hl sx]; exact hx
    · rw [same b2 I hl sy]; exact hy
    · exact (sb.2 TI D.TIz).trans (k1 TI _ D.TIz D.TITO D.TIi1 D.TIi2 hTI)
    · exact (sb.2 TO D.TOz).trans TO1
    · exact q1.1.moved fun o e => (sb.2 i1 D.i1z).trans e
    · exact q2.1.moved fun o e => (sb.2 i2 D.i2z).trans e
    · rw [upd_ne (Nat.ne_of_lt (old q hq))]
      exact (hf q hq).1
  done := by
    intro X hP hw hK hc i pins s σ H E I hf st hg
    subst hP hw hK
    obtain ⟨hz, hTI, ⟨x0, y0, hTO⟩, t1, t2⟩ := st
    obtain ⟨xs, ys, sx, sy, l1, l2, hend⟩ := hg
    obtain ⟨us, rx, px⟩ := vals b1 I sx
    obtain ⟨vs, ry, py⟩ := vals b2 I sy
    have hd := I.ok.hd hc
    have n1 := rx.length
    have n2 := ry.length
    refine wpAny_pyNext_zipD2_end (apart D) (draws b1 (show X.A.in1.handled = none from hd) i1 a D.l1i1 us.toArray) (draws b2 (show X.A.in1.handled = none from hd) i2 c D.l2i2 vs.toArray) hz hTI hTO ⟨t1, px⟩ ⟨t2, py⟩ (by simp; omega) (by simp; omega) (by simp; omega) ?_
    intro h1 tk k1
    refine ⟨rfl, I.turnedL (t' := tk) (ch := [z, TI, TO, i1, i2]) (fun q o hq e => ?_) hf⟩
    simp only [List.mem_cons, List.not_mem_nil, or_false, not_or] at hq
    obtain ⟨n1, n2, n3, n4, n5⟩ := hq
    exact k1 q o n1 n3 n4 n5 e
  self := fun A i s Q E st h => wpAny_pyIter_zip st.1 h
/-- zip(e, e2): each a list or a tuple -/
def iZipM (K : PySem.W.Frag) (ta : TA) : TI := fun σ H R => ta σ H fun vs H1 => ∃ b1 b2 a c xs ys, vs = [.ref a, .ref c] ∧ Sq b1 K H1 a xs ∧ Sq b2 K H1 c ys ∧ R (Itm K b1 b2 a c) H1
theorem pi_zipM {X : Cx} {e e2 : Expr} {ta : TA} {p pos tpos : Pos} {elts : List Expr} {kk : Nat} (hg : Gl X "zip") (hm : X.mg "zip" = none) (ha : PA X [e, e2] ta)
    (h1 : starEach [e, e2] X.env = (false, eval e X.env) :: starEach [e2] X.env := by rfl) (h2 : (backTo pos (starEach [e2] X.env)).any (·.1) = false := by rfl) :
    PI X (.Tuple elts kk tpos) (.Call (.Name "zip" p) [e, e2] [] pos) (iZipM X.K ta) where
  run := fun pins s σ H R I h => by
    refine Call_ (ld_blt I hg hm PyProof.Rows.boot_zip (PyProof.Rows.callWith_type1 (thn (ha.run pos pins s σ H _ I h) fun us s1 hq => ?_) h1 h2))
    obtain ⟨vs, H1, I1, r1, b1, b2, a, c, xs, ys, rfl, sx, sy, q⟩ := hq
    match us, r1 with
    | [_, _], .cons r (.cons r' .nil) =>
      cases r
      cases r'
      obtain ⟨us, rx, px⟩ := vals b1 I1 sx
      obtain ⟨vs, ry, py⟩ := vals b2 I1 sy
      refine zip_begins2 (begins b1 a us.toArray) (begins b2 c vs.toArray) px py fun h' z1 TI1 TO1 g1 g2 hsz hk => wpAny_pyIter_zip z1 ?_
      refine ⟨s1.heap.objs.size + 4, [s1.heap.objs.size + 4, s1.heap.objs.size + 2, s1.heap.objs.size + 3, s1.heap.objs.size, s1.heap.objs.size + 1], _, _, H1, rfl, I1.kept (t' := s1.toks) hk, turnM b1 b2 (PySem.W.ktu_apart s1.heap.objs.size a c px.lt py.lt), ⟨z1, TI1, ⟨_, _, TO1⟩, at_new b1 g1, at_new b2 g2⟩, fun q hq => ?_, q⟩
      have hle : s1.heap.objs.size ≤ q := by
        simp only [List.mem_cons, List.not_mem_nil, or_false] at hq
        rcases hq with rfl | rfl | rfl | rfl | rfl
        all_goals first | exact Nat.le_refl _ | exact Nat.le_add_right _ _
      exact I1.fpOk hle (I1.hok.fresh hle)
end FnZ

set_option Elab.async false
set_option linter.all false
set_option maxRecDepth 100000
/-! zip of lists and tuples, by the data. -/
namespace Fn
open PySem PySem.Spec L2
section
variable {K : PySem.W.Frag} {c : Ct} {own : List Nat} {F H : Hp}
def zipJ : List PyData → O (List PyData)
  | [.list ds, .list es] => .ok (zipD ds es)
  | [.tuple ds, .list es] => .ok (zipD ds es)
  | [.list ds, .tuple es] => .ok (zipD ds es)
  | [.tuple ds, .tuple es] => .ok (zipD ds es)
  | _ => .bad
def gZipM (g : Rho → O (List PyData)) : Rho → O (List PyData) := fun ρ => (g ρ).bind zipJ
theorem sq_same {b : Bool} {a : Addr} {xs : List V} (s : Same F H) (h : FnZ.Sq b K F a xs) : FnZ.Sq b K H a xs := by
  cases b with
  | true => exact s.seq h
  | false => exact Same.tup s h
theorem rep_sq {v : V} {d : PyData} {ds : List PyData} (r : Rep K c.cls F v d) (h : d = .list ds ∨ d = .tuple ds) : ∃ b a xs, v = .ref a ∧ FnZ.Sq b K F a xs ∧ RepL K c.cls F xs ds := by
  rcases h with rfl | rfl
  · cases r with
    | ls h r => exact ⟨true, _, _, rfl, SqL.of h, r⟩
  · cases r with
    | tp h r => exact ⟨false, _, _, rfl, h, r⟩
theorem fi_zipM {t : TA} {g : Rho → O (List PyData)} (h : FA K c own true t g) : FI K c own (FnZ.iZipM K t) (gZipM g) := fun σ H F ρ R S q => by
  refine h σ H F ρ _ S (OPost.imp (fun d q v H1 F1 e r => ?_) (fun _ q => q) (OPost.bind q))
  have key : ∀ d1 d2 ds es, (d1 = PyData.list ds ∨ d1 = .tuple ds) → (d2 = PyData.list es ∨ d2 = .tuple es) → RepL K c.cls F1 v [d1, d2] →
      (∀ J H' F', Ext F H F' H' → ItOk K c J F' (zipD ds es) → R J H') → ∃ b1 b2 a c xs ys, v = [.ref a, .ref c] ∧ FnZ.Sq b1 K H1 a xs ∧ FnZ.Sq b2 K H1 c ys ∧ R (FnZ.Itm K b1 b2 a c) H1 := fun d1 d2 ds es k1 k2 r q => by
    cases r with
    | cons ra t0 =>
      cases t0 with
      | cons rb t1 =>
        cases t1
        obtain ⟨b1, a1, xs, rfl, h1, r1⟩ := rep_sq ra k1
        obtain ⟨b2, a2, ys, rfl, h2, r2⟩ := rep_sq rb k2
        refine ⟨b1, b2, a1, a2, xs, ys, rfl, sq_same e.s h1, sq_same e.s h2, q _ _ _ e fun F2 H2 s1 s2 i => ?_⟩
        have q1 := sq_same s2 (sq_same s1 h1)
        have q2 := sq_same s2 (sq_same s1 h2)
        have le : (zipD ds es).length = min xs.length ys.length := by
          unfold zipD
          rw [List.length_zipWith, r1.length, r2.length]
        refine ⟨fun hi => ?_, fun hi => ⟨xs, ys, q1, q2, by omega, by omega, by omega⟩, fun x H' d hd y => ?_⟩
        · rw [le] at hi
          have hx : i < xs.length := by omega
          have hy : i < ys.length := by omega
          exact ⟨xs, ys, xs[i], ys[i], q1, q2, List.getElem?_eq_getElem hx, List.getElem?_eq_getElem hy⟩
        · obtain ⟨T, u, u', rfl, hT, rfl, y1, y2⟩ := y
          unfold zipD at hd
          rw [List.getElem?_zipWith] at hd
          cases hq : ds[i]? with
          | none => rw [hq] at hd; cases hd
          | some d0 =>
            cases hq' : es[i]? with
            | none => rw [hq, hq'] at hd; cases hd
            | some e0 =>
              rw [hq, hq'] at hd
              cases hd
              obtain ⟨w, w1, w2⟩ := r1.get hq
              obtain ⟨z, z1, z2⟩ := r2.get hq'
              have e1 := y1 xs q1
              rw [w1] at e1
              cases e1
              have e2 := y2 ys q2
              rw [z1] at e2
              cases e2
              exact ⟨_, Ext.new s2 hT, .tp (SqT.of upd_same) (.cons ((w2.mono s1).mono (same_upd (s2.free hT))) (.cons ((z2.mono s1).mono (same_upd (s2.free hT))) .nil))⟩
  unfold zipJ at q
  split at q
  · exact key _ _ _ _ (.inl rfl) (.inl rfl) r q
  · exact key _ _ _ _ (.inr rfl) (.inl rfl) r q
  · exact key _ _ _ _ (.inl rfl) (.inr rfl) r q
  · exact key _ _ _ _ (.inr rfl) (.inr rfl) r q
  · exact q.elim
end
section
variable (ρ : Rho) (gs : Rho → O (List PyData)) (ds es : List PyData)
@[simp] theorem gZipM_ap : gZipM gs ρ = (gs ρ).bind zipJ := rfl
@[simp] theorem zipJ_ll : zipJ [.list ds, .list es] = .ok (zipD ds es) := rfl
@[simp] theorem zipJ_tl : zipJ [.tuple ds, .list es] = .ok (zipD ds es) := rfl
@[simp] theorem zipJ_lt : zipJ [.list ds, .tuple es] = .ok (zipD ds es) := rfl
@[simp] theorem zipJ_tt : zipJ [.tuple ds, .tuple es] = .ok (zipD ds es) := rfl
end
end Fn

set_option Elab.async false
set_option linter.all false
set_option maxRecDepth 100000
namespace Fn
open PySem PySem.Spec L2
/-! ### a try with a name -/
theorem ifF {A B : Prop} (h : B) : if false = true then A else B := by
  rw [if_neg Bool.false_ne_true]
  exact h
theorem pss_guard {X : Cx} {L : List Stmt} {p : Prop} {t : TS} (h : p → PSs X L t) : PSs X L (fun D σ H => p ∧ t D σ H) := ⟨fun pins s σ H D I q => (h q.1).run pins s σ H D I q.2⟩
theorem zc_of {cls c : Value} {d : Option Addr} {oe : Obj} (h : cls = c ∧ d = none) (hz : Zc cls d oe) : Zc c none oe := by
  obtain ⟨rfl, rfl⟩ := h
  exact hz
def tIsE (K : PySem.W.Frag) (D a : Addr) (i : Nat) (v : V) : TE := tCB (rIsE K D a) (tCons (tVar i) (tCons (tC v) tNil))
def tIsT (K : PySem.W.Frag) (D a : Addr) (i : Nat) (v : V) : TT := fun σ H Q => tIsE K D a i v σ H fun x H' => ∃ k, TruV K x H' k ∧ Q k H'
section
variable (X : Cx) (a : Addr) (pn : List (Addr × Obj)) {D : Addr} {oe : Obj} {i : Nat} {v : V} {n c : Str} {p p1 p2 pos : Pos}
theorem pe_isE (C : ExcC X.K D) (hz : Zc (.ref D) none oe) (hf : ∃ vs, oe.data = .fields vs) (hm : X.mg "isinstance" = none) (hg : Gl (X.suite a ((a, oe) :: pn)) "isinstance") (h1 : PE (X.suite a ((a, oe) :: pn)) (.Name n p1) (tVar i)) (h2 : PE (X.suite a ((a, oe) :: pn)) (.Name c p2) (tC v)) :
    PE (X.suite a ((a, oe) :: pn)) (.Call (.Name "isinstance" p) [.Name n p1, .Name c p2] [] pos) (tIsE X.K D a i v) :=
  pe_callB (X := X.suite a ((a, oe) :: pn)) (call_isE C hz hf) hg hm bt_isinstance (pa_cons h1 (pa_cons h2 pa_nil))
theorem pt_isE (C : ExcC X.K D) (hz : Zc (.ref D) none oe) (hf : ∃ vs, oe.data = .fields vs) (hm : X.mg "isinstance" = none) (hg : Gl (X.suite a ((a, oe) :: pn)) "isinstance") (h1 : PE (X.suite a ((a, oe) :: pn)) (.Name n p1) (tVar i)) (h2 : PE (X.suite a ((a, oe) :: pn)) (.Name c p2) (tC v)) :
    PT (X.suite a ((a, oe) :: pn)) (.Call (.Name "isinstance" p) [.Name n p1, .Name c p2] [] pos) (tIsT X.K D a i v) := pt_truth (pe_isE X a pn C hz hf hm hg h1 h2) (by intro _; rfl)
end
/-- the reading -/
theorem isE_rd {K : PySem.W.Frag} {D a : Addr} {i : Nat} {v : V} {cv : Value} {b : Bool} {σ : L2.St} {H : Hp} {Q : VK} (h : σ[i]? = some (some (.ref a))) (hv : ∀ u, RelV v u → u = cv) (k : PySem.W.kitOne K (.ref D) cv = some b) (q : Q (.bl b) H) : tIsE K D a i v σ H Q :=
  ⟨_, h, v, cv, b, rfl, hv, k, q⟩
theorem isT_rd {K : PySem.W.Frag} {D a : Addr} {i : Nat} {v : V} {cv : Value} {b : Bool} {σ : L2.St} {H : Hp} {Q : Bool → Hp → Prop} (h : σ[i]? = some (some (.ref a))) (hv : ∀ u, RelV v u → u = cv) (k : PySem.W.kitOne K (.ref D) cv = some b) (q : Q b H) : tIsT K D a i v σ H Q :=
  isE_rd h hv k ⟨b, rfl, q⟩
/-- whatever the frame holds -/
def anyW (n : Nat) (W : WX) : XK := fun cl d H => ∀ σ : L2.St, σ.length = n → W cl d σ H
theorem passN {X : Cx} {W : WX} {n : Nat} (tk : Takes X W) (hn : X.N.length = n) : Passes (L2.CX X.prog X.w) X (anyW n W) := fun _ σ _ _ e s' I c => tk e s' (XE.of_call I (fun cls d H' h => h σ (by rw [I.len, hn])) c)
theorem pe_makeT (X : Cx) (pn : List (Addr × Obj)) (xe : Value → Shared → Prop) {cls xc : Nat → Addr} {k j : Nat} {fp : List PyData → O PyData} {E : XK} {p pos : Pos} {e : Expr} {es : List Expr} {t : TA} (o : MkAt X.prog X.w X.K X.mg X.base cls xc k fp) (hr : Room j X.A) (hk : k + 1 ≤ j) (hg : Gl (X.tr pn xe) "Problem")
    (hx : Passes (L2.CX X.prog X.w) (X.tr pn xe) E) (ha : PA (X.tr pn xe) (e :: es) t) (he : starEach (e :: es) X.env = (false, eval e X.env) :: starEach es X.env := by rfl) (hpl : (backTo pos (starEach es X.env)).any (·.1) = false := by rfl) :
    PE (X.tr pn xe) (.Call (.Name "Problem" p) (e :: es) [] pos) (tMake (cls 0) (spI X.K cls xc fp) [] E t) := pe_makeO (X := X.tr pn xe) o hr hk hg hx ha he hpl
theorem pe_callT (X : Cx) (pn : List (Addr × Obj)) (xe : Value → Shared → Prop) {cls xc : Nat → Addr} {x : Str} {ps : List Str} {n k j : Nat} {g : List PyData → O PyData} {W : WX} {p pos : Pos} {e : Expr} {es : List Expr} {t : TA} (o : OkAt X.prog X.w X.K X.mg X.base cls xc x ps n k g) (hr : Room j X.A) (hk : k ≤ j) (hg : Gl (X.tr pn xe) x) (tk : Takes (X.tr pn xe) W) (ha : PA (X.tr pn xe) (e :: es) t) (hdb : (x == ("__debug__" : Str)) = false := by decide)
    (he : starEach (e :: es) X.env = (false, eval e X.env) :: starEach es X.env := by rfl) (hpl : (backTo pos (starEach es X.env)).any (·.1) = false := by rfl) :
    PE (X.tr pn xe) (.Call (.Name x p) (e :: es) [] pos) (tCallS (spF X.K cls xc n g) (WE W) t) := pe_callO (X := X.tr pn xe) o hr hk hg tk ha hdb he hpl
def tTruth (K : PySem.W.Frag) (t : TE) : TT := fun σ H Q => t σ H fun x H' => ∃ k, TruV K x H' k ∧ Q k H'
theorem pt_truthT (X : Cx) (pn : List (Addr × Obj)) (xe : Value → Shared → Prop) {e : Expr} {t : TE} (h : PE (X.tr pn xe) e t) (he : ∀ whole, isTrue e (X.tr pn xe).env whole = (do let v ← whole; standAt e.pos; holding [v] (truthy v))) : PT (X.tr pn xe) e (tTruth X.K t) := pt_truth h he
theorem kit_own {K : PySem.W.Frag} {t c : Addr} {b : Bool} (r : PySem.W.subIn K (.ref t) (.ref t) = some true) (hc : PySem.W.isClsIn K c = true) (ht : PySem.W.typeIn K (.ref c) = some (.type "type")) (hs : PySem.W.subIn K (.ref t) (.ref c) = some b) : PySem.W.kitOne K (.ref t) (.ref c) = some b := by
  by_cases e : t = c
  · subst e
    rw [r] at hs
    cases hs
    unfold PySem.W.kitOne
    rw [if_pos (beq_self_eq_true _)]
  · unfold PySem.W.kitOne
    rw [if_neg (fun z => e (Value.ref.inj (beq_iff_eq.mp z)))]
    have hc : (PySem.W.clsIn K c).isSome = true := hc
    show (if ((PySem.W.clsIn K c).isSome && PySem.W.typeIn K (.ref c) == some (.type "type")) = true then PySem.W.subIn K (.ref t) (.ref c) else none) = some b
    rw [hc, ht, if_pos (by rfl)]
    exact hs
theorem kit_ty2 {K : PySem.W.Frag} {t : Value} {T : String} {b : Bool} (hk : PySem.W.kitMeta T = true) (hn : t ≠ .type T) (hs : PySem.W.subIn K t (.type T) = some b) : PySem.W.kitOne K t (.type T) = some b := by
  unfold PySem.W.kitOne
  rw [if_neg (fun z => hn (beq_iff_eq.mp z))]
  show (if PySem.W.kitMeta T = true then PySem.W.subIn K t (.type T) else none) = some b
  rw [if_pos hk]
  exact hs
/-- what is said of the refusal that is waited for -/
structure RefN (K : PySem.W.Frag) (mg : Str → Option Value) (xc : Nat → Addr) (r : Nat) : Prop where
  x1 : ExcC K (xc r)
  em : PySem.W.exmOne K (.ref (xc r)) (.ref (xc r)) = some true
  k : ∀ j, j < 7 → PySem.W.kitOne K (.ref (xc r)) (.ref (xc j)) = some (j == 0 || j == r)
  kV : PySem.W.kitOne K (.ref (xc r)) (.type "ValueError") = some true
  nV : mg "ValueError" = none
/-- a law: true at every script -/
def spLaw (K : PySem.W.Frag) : Sp := fun vs H Q _ => ∃ (a : Addr) (ns : List Int), vs = [.ref a] ∧ SqL K H a (ns.map V.int) ∧ ns.length ≤ 63 ∧ ∀ H', Q (.bl true) H'
theorem repL_ints {K : PySem.W.Frag} {cls : Nat → Addr} {F : Hp} : ∀ ns : List Int, RepL K cls F (ns.map V.int) (ns.map PyData.int)
  | [] => .nil
  | n :: ns => .cons (.int n) (repL_ints ns)
theorem law_fn {P : Program} {w : World} {K : PySem.W.Frag} {mg : Str → Option Value} {base : Heap} {x qual : Str} {st : Stmt} {f : Addr} {fd : FuncData} {N : List Str} {k : Nat} {cls xc : Nat → Addr} (F : Fun K x qual st f fd) (S : FnScope N ["_law_script"] (defScope st)) (g : Rho → R) (own' : List Nat)
    (h : ∀ (cdv : Value) (A : Around) (outer : List Env) (s : Shared) (H : Hp) (E : XK) (F0 : Hp), Room k (A.deeper (PyProof.Rows.envOfC qual (defScope st) s.heap.objs.size f cdv)) →
      ∃ t, PSs (cxOf (L2.CX P w) P w K mg base N qual (defScope st) f cdv A outer s H E) (defBody st) t ∧ FS K ⟨cls, xc, fun cl d _ H' => E cl d H', (H, F0)⟩ [] [] own' t g)
    (hg : ∀ ns : List Int, ns.length ≤ 63 → fnG N.length g [D.ro (ns.map PyData.int)] = .ok (.bool true)) : FnOk P w K mg base (L2.CX P w) (k + 1) f fd ["_law_script"] (spLaw K) := by
  refine F.okX S (fun vs H Q E h => ?_) (fun cdv A outer s H vs Q E hr hsp => ?_)
  · obtain ⟨a, ns, rfl, _⟩ := h
    rfl
  · obtain ⟨a, ns, rfl, hS, hl, q⟩ := hsp
    obtain ⟨t, ht, hf⟩ := h cdv A outer s H E H hr
    have r0 : RepL K cls H [V.ref a] [D.ro (ns.map PyData.int)] := .cons (.ro hS (repL_ints ns)) .nil
    refine ⟨t, ht, hf _ _ H H (rho0 N.length [D.ro (ns.map PyData.int)]) (sim_start (Same.refl H) r0) ?_⟩
    have q1 := hg ns hl
    unfold fnG at q1
    cases e : g (rho0 N.length [D.ro (ns.map PyData.int)]) with
    | nx ρ' => rw [e] at q1; cases q1
    | rt d =>
      rw [e] at q1
      cases q1
      intro v H' F' _ r
      cases r
      exact q H'
    | ex n => rw [e] at q1; cases q1
    | bk ρ' => rw [e] at q1; cases q1
    | ct ρ' => rw [e] at q1; cases q1
    | bad => rw [e] at q1; cases q1
end Fn

set_option Elab.async false
set_option linter.all false
set_option maxRecDepth 100000
namespace K03
open PySem PySem.Spec L2 Fn
def topS (i : Nat) : Stmt := PySem.Challenge.pw_wholecut_k03_points.main.body.getD i (.Pass ⟨0, 0, 0, 0⟩)
structure Top (K : PySem.W.Frag) (mg : Str → Option Value) (xc cls : Nat → Addr) : Prop where
  n_all : mg "all" = none
  n_bool : mg "bool" = none
  n_int : mg "int" = none
  n_isinstance : mg "isinstance" = none
  n_len : mg "len" = none
  n_list : mg "list" = none
  n_min : mg "min" = none
  n_range : mg "range" = none
  n_str : mg "str" = none
  n_sum : mg "sum" = none
  n_tuple : mg "tuple" = none
  n_zip : mg "zip" = none
  i_MOST_UNKNOWNS : IntAt mg "MOST_UNKNOWNS" (3)
  i_GREATEST_TOP : IntAt mg "GREATEST_TOP" (20)
  i_MOST_ROWS : IntAt mg "MOST_ROWS" (6)
  i_GREATEST_NUMBER : IntAt mg "GREATEST_NUMBER" (50)
  i_GREATEST_BOUND : IntAt mg "GREATEST_BOUND" (2000)
  e_CutError : ExcAt K mg "CutError" (xc 0)
  e_BadProblem : ExcAt K mg "BadProblem" (xc 1)
  e_BadPoint : ExcAt K mg "BadPoint" (xc 2)
  e_BadBox : ExcAt K mg "BadBox" (xc 3)
  e_BadWeights : ExcAt K mg "BadWeights" (xc 4)
  e_NoTurn : ExcAt K mg "NoTurn" (xc 5)
  e_BadText : ExcAt K mg "BadText" (xc 6)
  cl0 : Cls K (cls 0)
  mc_Problem : mg "Problem" = some (.ref (cls 0))
  na_tops : NoAttr K (cls 0) "tops"
  na_rows : NoAttr K (cls 0) "rows"
  na_gain : NoAttr K (cls 0) "gain"
  d_is_whole : DefAt K mg "is_whole" (topS 9) ["thing"]
  d_is_within : DefAt K mg "is_within" (topS 10) ["thing", "least", "greatest"]
  d_are_within : DefAt K mg "are_within" (topS 11) ["things", "least", "greatest"]
  d_products_sum : DefAt K mg "products_sum" (topS 12) ["numbers", "others"]
  d_is_problem : DefAt K mg "is_problem" (topS 20) ["tops", "rows", "gain"]
  d_are_tops : DefAt K mg "are_tops" (topS 21) ["tops"]
  d_are_rows : DefAt K mg "are_rows" (topS 22) ["rows", "unknowns"]
  d_is_row : DefAt K mg "is_row" (topS 23) ["row", "unknowns"]
  d_is_word : DefAt K mg "is_word" (topS 24) ["word"]
  d_is_gain : DefAt K mg "is_gain" (topS 25) ["gain", "unknowns"]
  d_are_numbers : DefAt K mg "are_numbers" (topS 26) ["numbers", "unknowns"]
  d_is_point : DefAt K mg "is_point" (topS 27) ["problem", "point"]
  d_check_point : DefAt K mg "check_point" (topS 28) ["problem", "point"]
  d_meets : DefAt K mg "meets" (topS 29) ["problem", "point"]
  d_holds : DefAt K mg "holds" (topS 30) ["row", "point"]
  d_gained : DefAt K mg "gained" (topS 31) ["problem", "point"]
  d__law_cell_at : DefAt K mg "_law_cell_at" (topS 33) ["_law_script", "_law_k"]
  d__law_whole : DefAt K mg "_law_whole" (topS 34) ["_law_found"]
  d__law_number : DefAt K mg "_law_number" (topS 35) ["_law_cell", "_law_kind_here"]
  d__law_bound : DefAt K mg "_law_bound" (topS 36) ["_law_cell", "_law_kind_here"]
  d__law_tops : DefAt K mg "_law_tops" (topS 37) ["_law_script"]
  d__law_kind : DefAt K mg "_law_kind" (topS 38) ["_law_script"]
  d__law_gain : DefAt K mg "_law_gain" (topS 39) ["_law_script"]
  d__law_rows : DefAt K mg "_law_rows" (topS 40) ["_law_script"]
  d__law_sum : DefAt K mg "_law_sum" (topS 41) ["_law_numbers", "_law_point"]
  d__law_meets : DefAt K mg "_law_meets" (topS 42) ["_law_tops_here", "_law_rows_here", "_law_point"]
  d__law_refused : DefAt K mg "_law_refused" (topS 43) ["_law_problem", "_law_point", "_law_by_gain"]
  d__law_no_point : DefAt K mg "_law_no_point" (topS 44) ["_law_point", "_law_cell"]
  d_law : DefAt K mg "law" (topS 45) ["_law_script"]
section
variable {P : Program} {w : World} {K : PySem.W.Frag} {mg : Str → Option Value} {base : Heap} {cls xc : Nat → Addr}
/-! ### is_whole -/
abbrev st_is_whole : Stmt := topS 9
theorem sc_is_whole : FnScope ["thing"] ["thing"] (defScope st_is_whole) := ⟨rfl, rfl, rfl, by decide +kernel, rfl, by decide +kernel, by decide +kernel⟩
def g_is_whole : Rho → R :=
    (gRet (gAndV (gIsi "int" (gVar 0)) (gNotV (gIsi "bool" (gVar 0)))))
def f_is_whole : List PyData → O PyData := fnG 1 g_is_whole
theorem ok_is_whole (T : Top K mg xc cls) : OkAt P w K mg base cls xc "is_whole" ["thing"] 1 1 f_is_whole :=
  okAt_of T.d_is_whole sc_is_whole g_is_whole [] fun f cdv A outer s H E F0 hr => ⟨_, (pss_one (ps_ret (pe_and (pe_callB call_isi (by rfl) T.n_isinstance bt_isinstance (pa_cons (pv 0) (pa_cons (pe_bltn (v := .ty "int") (by rfl) T.n_int bt_int rfl) pa_nil))) (pe_one (pe_not (pe_callB call_isi (by rfl) T.n_isinstance bt_isinstance (pa_cons (pv 0) (pa_cons (pe_bltn (v := .ty "bool") (by rfl) T.n_bool bt_bool rfl) pa_nil)))))))),
    (fs_ret (fe_and (fe_isi kit_int (fe_var rfl)) (fe_not (fe_isi kit_bool (fe_var rfl)))))⟩
/-! ### is_within -/
abbrev st_is_within : Stmt := topS 10
theorem sc_is_within : FnScope ["thing", "least", "greatest"] ["thing", "least", "greatest"] (defScope st_is_within) := ⟨rfl, rfl, rfl, by decide +kernel, rfl, by decide +kernel, by decide +kernel⟩
def g_is_within : Rho → R :=
    (gRet (gAndV (gFn 1 f_is_whole (gConsA (gVar 0) gNilA)) (gChain dLe dLe (gVar 1) (gVar 0) (gVar 2))))
def f_is_within : List PyData → O PyData := fnG 3 g_is_within
theorem ok_is_within (T : Top K mg xc cls) : OkAt P w K mg base cls xc "is_within" ["thing", "least", "greatest"] 3 2 f_is_within :=
  okAt_of T.d_is_within sc_is_within g_is_within [] fun f cdv A outer s H E F0 hr => ⟨_, (pss_one (ps_ret (pe_and (pe_callO (ok_is_whole T) hr (by decide) (by rfl) (takes_of rfl rfl rfl rfl) (pa_cons (pv 0) pa_nil)) (pe_one (pe_chain op_le op_le (pv 1) (pv 0) (pv 2)))))),
    (fs_ret (fe_and (fe_call rfl (fa_cons (fe_var rfl) fa_nil)) (fe_chain opf_le opf_le (fe_var rfl) (fe_var rfl) (fe_var rfl))))⟩
/-! ### are_within -/
abbrev st_are_within : Stmt := topS 11
theorem sc_are_within : FnScope ["things", "least", "greatest", "thing"] ["things", "least", "greatest"] (defScope st_are_within) := ⟨rfl, rfl, rfl, by decide +kernel, rfl, by decide +kernel, by decide +kernel⟩
def g_are_within : Rho → R :=
    (gRet (gB bAll (gConsA (gComp [3] (aName 3) gYes (gFn 3 f_is_within (gConsA (gVar 3) (gConsA (gVar 1) (gConsA (gVar 2) gNilA)))) (gItA (gVar 0))) gNilA)))
def f_are_within : List PyData → O PyData := fnG 4 g_are_within
theorem ok_are_within (T : Top K mg xc cls) : OkAt P w K mg base cls xc "are_within" ["things", "least", "greatest"] 3 3 f_are_within :=
  okAt_of T.d_are_within sc_are_within g_are_within [] fun f cdv A outer s H E F0 hr => ⟨_, (pss_one (ps_ret (pe_callB (cr_all rfl) (by rfl) T.n_all bt_all (pa_cons (pe_lc (own := [("thing", 3)]) rfl sc_are_within.nd (pi_any (pv 0)) (blkOk_by (N := ["things", "least", "greatest", "thing"]) (sc := defScope st_are_within) (own := [("thing", 3)]) (by decide +kernel)) (fun _ _ _ _ _ => (pg_name (i := 3) sc_are_within.nd rfl (by first | exact Or.inl rfl | exact Or.inr rfl))) (fun _ _ _ _ _ => pts_nil) (fun _ _ _ _ _ => (pe_callO (ok_is_within T) hr (by decide) (by rfl) takes0 (pa_cons (pv 3) (pa_cons (pv 1) (pa_cons (pv 2) pa_nil)))))) pa_nil)))),
    (fs_ret (fe_callB cf_all (fa_cons (fe_comp (vs := [3]) (fi_any (fe_var rfl)) (fc_name rfl rfl) aName_ex ft_yes (fe_call rfl (fa_cons (fe_var rfl) (fa_cons (fe_var rfl) (fa_cons (fe_var rfl) fa_nil))))) fa_nil)))⟩
/-! ### products_sum -/
abbrev st_products_sum : Stmt := topS 12
theorem sc_products_sum : FnScope ["numbers", "others", "number", "other"] ["numbers", "others"] (defScope st_products_sum) := ⟨rfl, rfl, rfl, by decide +kernel, rfl, by decide +kernel, by decide +kernel⟩
def g_products_sum : Rho → R :=
    (gRet (gB bSum (gConsA (gComp [2, 3] (aTup (aCons (aName 2) (aCons (aName 3) aNil))) gYes (gMul (gVar 2) (gVar 3)) (gZipM (gConsA (gVar 0) (gConsA (gVar 1) gNilA)))) gNilA)))
def f_products_sum : List PyData → O PyData := fnG 4 g_products_sum
theorem ok_products_sum (T : Top K mg xc cls) : OkAt P w K mg base cls xc "products_sum" ["numbers", "others"] 2 1 f_products_sum :=
  okAt_of T.d_products_sum sc_products_sum g_products_sum [] fun f cdv A outer s H E F0 hr => ⟨_, (pss_one (ps_ret (pe_callB (cr_sum rfl) (by rfl) T.n_sum bt_sum (pa_cons (pe_lc (own := [("number", 2), ("other", 3)]) rfl sc_products_sum.nd (FnZ.pi_zipM (by rfl) T.n_zip (pa_cons (pv 0) (pa_cons (pv 1) pa_nil))) (blkOk_by (N := ["numbers", "others", "number", "other"]) (sc := defScope st_products_sum) (own := [("number", 2), ("other", 3)]) (by decide +kernel)) (fun _ _ _ _ _ => (pg_tup (by rfl) (pgs_cons (pg_name (i := 2) sc_products_sum.nd rfl (by first | exact Or.inl rfl | exact Or.inr rfl)) (pgs_cons (pg_name (i := 3) sc_products_sum.nd rfl (by first | exact Or.inl rfl | exact Or.inr rfl)) pgs_nil)))) (fun _ _ _ _ _ => pts_nil) (fun _ _ _ _ _ => (pe_op op_mulAll (pv 2) (pv 3)))) pa_nil)))),
    (fs_ret (fe_callB cf_sum (fa_cons (fe_comp (vs := [2, 3]) (fi_zipM (fa_cons (fe_var rfl) (fa_cons (fe_var rfl) fa_nil))) (fc_tup (fcs_cons (fc_name rfl rfl) (fcs_cons (fc_name rfl rfl) fcs_nil)) (aCons_len (aCons_len aNil_len aName_ex) aName_ex)) (aTup_ex (aCons_ex aName_ex (aCons_ex aName_ex aNil_ex))) ft_yes (fe_op opf_mul (fe_var rfl) (fe_var rfl))) fa_nil)))⟩
/-! ### are_tops -/
abbrev st_are_tops : Stmt := topS 21
theorem sc_are_tops : FnScope ["tops"] ["tops"] (defScope st_are_tops) := ⟨rfl, rfl, rfl, by decide +kernel, rfl, by decide +kernel, by decide +kernel⟩
def g_are_tops : Rho → R :=
    (gSeq (gIfS (gNotT (gTru (gIsi "list" (gVar 0)))) (gRet (gC (.bool false))) gNext)
    (gRet (gAndV (gChain dLe dLe (gC (.int 1)) (gB bLen (gConsA (gVar 0) gNilA)) (gC (.int (3)))) (gFn 3 f_are_within (gConsA (gVar 0) (gConsA (gC (.int 0)) (gConsA (gC (.int (20))) gNilA)))))))
def f_are_tops : List PyData → O PyData := fnG 1 g_are_tops
theorem ok_are_tops (T : Top K mg xc cls) : OkAt P w K mg base cls xc "are_tops" ["tops"] 1 4 f_are_tops :=
  okAt_of T.d_are_tops sc_are_tops g_are_tops [] fun f cdv A outer s H E F0 hr => ⟨_, (pss_cons (ps_if (pt_not (pt_truth (pe_callB call_isi (by rfl) T.n_isinstance bt_isinstance (pa_cons (pv 0) (pa_cons (pe_bltn (v := .ty "list") (by rfl) T.n_list bt_list rfl) pa_nil))) (by intro _; rfl))) (pss_one (ps_ret pe_bl)) pss_nil)
      (pss_one (ps_ret (pe_and (pe_chain op_le op_le pe_int (pe_callB call_len (by rfl) T.n_len bt_len (pa_cons (pv 0) pa_nil)) (pe_globI (by rfl) T.i_MOST_UNKNOWNS)) (pe_one (pe_callO (ok_are_within T) hr (by decide) (by rfl) (takes_of rfl rfl rfl rfl) (pa_cons (pv 0) (pa_cons pe_int (pa_cons (pe_globI (by rfl) T.i_GREATEST_TOP) pa_nil))))))))),
    (fs_seq (own1 := []) (fs_if (own' := []) (ft_not (ft_truth (fe_isi kit_list (fe_var rfl)))) (fs_ret (fe_bool false)) fs_next)
      (fs_ret (fe_and (fe_chain opf_le opf_le (fe_int 1) (fe_callB cf_len (fa_cons (fe_var rfl) fa_nil)) (fe_int (3))) (fe_call rfl (fa_cons (fe_var rfl) (fa_cons (fe_int 0) (fa_cons (fe_int (20)) fa_nil)))))))⟩
/-! ### is_word -/
abbrev st_is_word : Stmt := topS 24
theorem sc_is_word : FnScope ["word"] ["word"] (defScope st_is_word) := ⟨rfl, rfl, rfl, by decide +kernel, rfl, by decide +kernel, by decide +kernel⟩
def g_is_word : Rho → R :=
    (gRet (gAndV (gIsi "str" (gVar 0)) (gIn (gVar 0) (gTup (gConsA (gC (.str "most")) (gConsA (gC (.str "least")) gNilA))))))
def f_is_word : List PyData → O PyData := fnG 1 g_is_word
theorem ok_is_word (T : Top K mg xc cls) : OkAt P w K mg base cls xc "is_word" ["word"] 1 1 f_is_word :=
  okAt_of T.d_is_word sc_is_word g_is_word [] fun f cdv A outer s H E F0 hr => ⟨_, (pss_one (ps_ret (pe_and (pe_callB call_isi (by rfl) T.n_isinstance bt_isinstance (pa_cons (pv 0) (pa_cons (pe_bltn (v := .ty "str") (by rfl) T.n_str bt_str rfl) pa_nil))) (pe_one (pe_cmpR op_inAll (pv 0) (pe_tup (pa_cons pe_str (pa_cons pe_str pa_nil))) (by rfl)))))),
    (fs_ret (fe_and (fe_isi kit_str (fe_var rfl)) (fe_op opf_in (fe_var rfl) (fe_tup (fa_cons (fe_str "most") (fa_cons (fe_str "least") fa_nil))))))⟩
/-! ### are_numbers -/
abbrev st_are_numbers : Stmt := topS 26
theorem sc_are_numbers : FnScope ["numbers", "unknowns"] ["numbers", "unknowns"] (defScope st_are_numbers) := ⟨rfl, rfl, rfl, by decide +kernel, rfl, by decide +kernel, by decide +kernel⟩
def g_are_numbers : Rho → R :=
    (gRet (gAndV (gEq (gB bLen (gConsA (gVar 0) gNilA)) (gVar 1)) (gFn 3 f_are_within (gConsA (gVar 0) (gConsA (gNeg (gC (.int (50)))) (gConsA (gC (.int (50))) gNilA))))))
def f_are_numbers : List PyData → O PyData := fnG 2 g_are_numbers
theorem ok_are_numbers (T : Top K mg xc cls) : OkAt P w K mg base cls xc "are_numbers" ["numbers", "unknowns"] 2 4 f_are_numbers :=
  okAt_of T.d_are_numbers sc_are_numbers g_are_numbers [] fun f cdv A outer s H E F0 hr => ⟨_, (pss_one (ps_ret (pe_and (pe_cmpR (op_eqAll hr.units) (pe_callB call_len (by rfl) T.n_len bt_len (pa_cons (pv 0) pa_nil)) (pv 1) (nomark _)) (pe_one (pe_callO (ok_are_within T) hr (by decide) (by rfl) (takes_of rfl rfl rfl rfl) (pa_cons (pv 0) (pa_cons (pe_un un_neg (pe_globI (by rfl) T.i_GREATEST_NUMBER)) (pa_cons (pe_globI (by rfl) T.i_GREATEST_NUMBER) pa_nil)))))))),
    (fs_ret (fe_and (fe_op opf_eq (fe_callB cf_len (fa_cons (fe_var rfl) fa_nil)) (fe_var rfl)) (fe_call rfl (fa_cons (fe_var rfl) (fa_cons (fe_un unf_neg (fe_int (50))) (fa_cons (fe_int (50)) fa_nil))))))⟩
/-! ### is_row -/
abbrev st_is_row : Stmt := topS 23
theorem sc_is_row : FnScope ["row", "unknowns", "numbers", "word", "bound"] ["row", "unknowns"] (defScope st_is_row) := ⟨rfl, rfl, rfl, by decide +kernel, rfl, by decide +kernel, by decide +kernel⟩
def g_is_row : Rho → R :=
    (gSeq (gIfS (gOrT (gNotT (gTru (gIsi "tuple" (gVar 0)))) (gBl (gNe (gB bLen (gConsA (gVar 0) gNilA)) (gC (.int 3))))) (gRet (gC (.bool false))) gNext)
    (gSeq (gAsg (aTup (aCons (aName 2) (aCons (aName 3) (aCons (aName 4) aNil)))) (gVar 0))
    (gSeq (gIfS (gOrT (gNotT (gTru (gIsi "tuple" (gVar 2)))) (gNotT (gTru (gFn 2 f_are_numbers (gConsA (gVar 2) (gConsA (gVar 1) gNilA)))))) (gRet (gC (.bool false))) gNext)
    (gRet (gAndV (gFn 1 f_is_word (gConsA (gVar 3) gNilA)) (gFn 3 f_is_within (gConsA (gVar 4) (gConsA (gNeg (gC (.int (2000)))) (gConsA (gC (.int (2000))) gNilA)))))))))
def f_is_row : List PyData → O PyData := fnG 5 g_is_row
theorem ok_is_row (T : Top K mg xc cls) : OkAt P w K mg base cls xc "is_row" ["row", "unknowns"] 2 5 f_is_row :=
  okAt_of T.d_is_row sc_is_row g_is_row [] fun f cdv A outer s H E F0 hr => ⟨_, (pss_cons (ps_if (PW.pt (pw_or (pt_not (pt_truth (pe_callB call_isi (by rfl) T.n_isinstance bt_isinstance (pa_cons (pv 0) (pa_cons (pe_bltn (v := .ty "tuple") (by rfl) T.n_tuple bt_tuple rfl) pa_nil))) (by intro _; rfl))) (pw_or1 (pt_cmpR (op_neAll hr.units) (pe_callB call_len (by rfl) T.n_len bt_len (pa_cons (pv 0) pa_nil)) pe_int (nomark _))))) (pss_one (ps_ret pe_bl)) pss_nil)
      (pss_cons (ps_asg (pv 0) (pg_tup (by rfl) (pgs_cons (pg_name (i := 2) sc_is_row.nd rfl (by first | exact Or.inl rfl | exact Or.inr rfl)) (pgs_cons (pg_name (i := 3) sc_is_row.nd rfl (by first | exact Or.inl rfl | exact Or.inr rfl)) (pgs_cons (pg_name (i := 4) sc_is_row.nd rfl (by first | exact Or.inl rfl | exact Or.inr rfl)) pgs_nil)))))
      (pss_cons (ps_if (PW.pt (pw_or (pt_not (pt_truth (pe_callB call_isi (by rfl) T.n_isinstance bt_isinstance (pa_cons (pv 2) (pa_cons (pe_bltn (v := .ty "tuple") (by rfl) T.n_tuple bt_tuple rfl) pa_nil))) (by intro _; rfl))) (pw_or1 (pt_not (pt_truth (pe_callO (ok_are_numbers T) hr (by decide) (by rfl) (takes_of rfl rfl rfl rfl) (pa_cons (pv 2) (pa_cons (pv 1) pa_nil))) (by intro _; rfl)))))) (pss_one (ps_ret pe_bl)) pss_nil)
      (pss_one (ps_ret (pe_and (pe_callO (ok_is_word T) hr (by decide) (by rfl) (takes_of rfl rfl rfl rfl) (pa_cons (pv 3) pa_nil)) (pe_one (pe_callO (ok_is_within T) hr (by decide) (by rfl) (takes_of rfl rfl rfl rfl) (pa_cons (pv 4) (pa_cons (pe_un un_neg (pe_globI (by rfl) T.i_GREATEST_BOUND)) (pa_cons (pe_globI (by rfl) T.i_GREATEST_BOUND) pa_nil))))))))))),
    (fs_seq (own1 := []) (fs_if (own' := []) (ft_or (ft_not (ft_truth (fe_isi kit_tuple (fe_var rfl)))) (ft_test (fe_op opf_ne (fe_callB cf_len (fa_cons (fe_var rfl) fa_nil)) (fe_int 3)))) (fs_ret (fe_bool false)) fs_next)
      (fs_seq (own1 := []) (fs_asg (fe_var rfl) (fg_tup (fgs_cons (fg_name rfl) (fgs_cons (fg_name rfl) (fgs_cons (fg_name rfl) fgs_nil))) (aCons_len (aCons_len (aCons_len aNil_len aName_ex) aName_ex) aName_ex)) (aTup_ex (aCons_ex aName_ex (aCons_ex aName_ex (aCons_ex aName_ex aNil_ex)))))
      (fs_seq (own1 := []) (fs_if (own' := []) (ft_or (ft_not (ft_truth (fe_isi kit_tuple (fe_var rfl)))) (ft_not (ft_truth (fe_call rfl (fa_cons (fe_var rfl) (fa_cons (fe_var rfl) fa_nil)))))) (fs_ret (fe_bool false)) fs_next)
      (fs_ret (fe_and (fe_call rfl (fa_cons (fe_var rfl) fa_nil)) (fe_call rfl (fa_cons (fe_var rfl) (fa_cons (fe_un unf_neg (fe_int (2000))) (fa_cons (fe_int (2000)) fa_nil)))))))))⟩
/-! ### are_rows -/
abbrev st_are_rows : Stmt := topS 22
theorem sc_are_rows : FnScope ["rows", "unknowns", "row"] ["rows", "unknowns"] (defScope st_are_rows) := ⟨rfl, rfl, rfl, by decide +kernel, rfl, by decide +kernel, by decide +kernel⟩
def g_are_rows : Rho → R :=
    (gSeq (gIfS (gOrT (gNotT (gTru (gIsi "list" (gVar 0)))) (gBl (gGt (gB bLen (gConsA (gVar 0) gNilA)) (gC (.int (6)))))) (gRet (gC (.bool false))) gNext)
    (gRet (gB bAll (gConsA (gComp [2] (aName 2) gYes (gFn 2 f_is_row (gConsA (gVar 2) (gConsA (gVar 1) gNilA))) (gItA (gVar 0))) gNilA))))
def f_are_rows : List PyData → O PyData := fnG 3 g_are_rows
theorem ok_are_rows (T : Top K mg xc cls) : OkAt P w K mg base cls xc "are_rows" ["rows", "unknowns"] 2 6 f_are_rows :=
  okAt_of T.d_are_rows sc_are_rows g_are_rows [] fun f cdv A outer s H E F0 hr => ⟨_, (pss_cons (ps_if (PW.pt (pw_or (pt_not (pt_truth (pe_callB call_isi (by rfl) T.n_isinstance bt_isinstance (pa_cons (pv 0) (pa_cons (pe_bltn (v := .ty "list") (by rfl) T.n_list bt_list rfl) pa_nil))) (by intro _; rfl))) (pw_or1 (pt_cmpR op_gt (pe_callB call_len (by rfl) T.n_len bt_len (pa_cons (pv 0) pa_nil)) (pe_globI (by rfl) T.i_MOST_ROWS) (nomark _))))) (pss_one (ps_ret pe_bl)) pss_nil)
      (pss_one (ps_ret (pe_callB (cr_all rfl) (by rfl) T.n_all bt_all (pa_cons (pe_lc (own := [("row", 2)]) rfl sc_are_rows.nd (pi_any (pv 0)) (blkOk_by (N := ["rows", "unknowns", "row"]) (sc := defScope st_are_rows) (own := [("row", 2)]) (by decide +kernel)) (fun _ _ _ _ _ => (pg_name (i := 2) sc_are_rows.nd rfl (by first | exact Or.inl rfl | exact Or.inr rfl))) (fun _ _ _ _ _ => pts_nil) (fun _ _ _ _ _ => (pe_callO (ok_is_row T) hr (by decide) (by rfl) takes0 (pa_cons (pv 2) (pa_cons (pv 1) pa_nil))))) pa_nil))))),
    (fs_seq (own1 := []) (fs_if (own' := []) (ft_or (ft_not (ft_truth (fe_isi kit_list (fe_var rfl)))) (ft_test (fe_op opf_gt (fe_callB cf_len (fa_cons (fe_var rfl) fa_nil)) (fe_int (6))))) (fs_ret (fe_bool false)) fs_next)
      (fs_ret (fe_callB cf_all (fa_cons (fe_comp (vs := [2]) (fi_any (fe_var rfl)) (fc_name rfl rfl) aName_ex ft_yes (fe_call rfl (fa_cons (fe_var rfl) (fa_cons (fe_var rfl) fa_nil)))) fa_nil))))⟩
/-! ### is_gain -/
abbrev st_is_gain : Stmt := topS 25
theorem sc_is_gain : FnScope ["gain", "unknowns"] ["gain", "unknowns"] (defScope st_is_gain) := ⟨rfl, rfl, rfl, by decide +kernel, rfl, by decide +kernel, by decide +kernel⟩
def g_is_gain : Rho → R :=
    (gRet (gAndV (gIsi "list" (gVar 0)) (gFn 2 f_are_numbers (gConsA (gVar 0) (gConsA (gVar 1) gNilA)))))
def f_is_gain : List PyData → O PyData := fnG 2 g_is_gain
theorem ok_is_gain (T : Top K mg xc cls) : OkAt P w K mg base cls xc "is_gain" ["gain", "unknowns"] 2 5 f_is_gain :=
  okAt_of T.d_is_gain sc_is_gain g_is_gain [] fun f cdv A outer s H E F0 hr => ⟨_, (pss_one (ps_ret (pe_and (pe_callB call_isi (by rfl) T.n_isinstance bt_isinstance (pa_cons (pv 0) (pa_cons (pe_bltn (v := .ty "list") (by rfl) T.n_list bt_list rfl) pa_nil))) (pe_one (pe_callO (ok_are_numbers T) hr (by decide) (by rfl) (takes_of rfl rfl rfl rfl) (pa_cons (pv 0) (pa_cons (pv 1) pa_nil))))))),
    (fs_ret (fe_and (fe_isi kit_list (fe_var rfl)) (fe_call rfl (fa_cons (fe_var rfl) (fa_cons (fe_var rfl) fa_nil)))))⟩
/-! ### is_problem -/
abbrev st_is_problem : Stmt := topS 20
theorem sc_is_problem : FnScope ["tops", "rows", "gain"] ["tops", "rows", "gain"] (defScope st_is_problem) := ⟨rfl, rfl, rfl, by decide +kernel, rfl, by decide +kernel, by decide +kernel⟩
def g_is_problem : Rho → R :=
    (gRet (gAndV (gFn 1 f_are_tops (gConsA (gVar 0) gNilA)) (gAndV (gFn 2 f_are_rows (gConsA (gVar 1) (gConsA (gB bLen (gConsA (gVar 0) gNilA)) gNilA))) (gFn 2 f_is_gain (gConsA (gVar 2) (gConsA (gB bLen (gConsA (gVar 0) gNilA)) gNilA))))))
def f_is_problem : List PyData → O PyData := fnG 3 g_is_problem
theorem ok_is_problem (T : Top K mg xc cls) : OkAt P w K mg base cls xc "is_problem" ["tops", "rows", "gain"] 3 7 f_is_problem :=
  okAt_of T.d_is_problem sc_is_problem g_is_problem [] fun f cdv A outer s H E F0 hr => ⟨_, (pss_one (ps_ret (pe_and (pe_callO (ok_are_tops T) hr (by decide) (by rfl) (takes_of rfl rfl rfl rfl) (pa_cons (pv 0) pa_nil)) (pe_and (pe_callO (ok_are_rows T) hr (by decide) (by rfl) (takes_of rfl rfl rfl rfl) (pa_cons (pv 1) (pa_cons (pe_callB call_len (by rfl) T.n_len bt_len (pa_cons (pv 0) pa_nil)) pa_nil))) (pe_one (pe_callO (ok_is_gain T) hr (by decide) (by rfl) (takes_of rfl rfl rfl rfl) (pa_cons (pv 2) (pa_cons (pe_callB call_len (by rfl) T.n_len bt_len (pa_cons (pv 0) pa_nil)) pa_nil)))))))),
    (fs_ret (fe_and (fe_call rfl (fa_cons (fe_var rfl) fa_nil)) (fe_and (fe_call rfl (fa_cons (fe_var rfl) (fa_cons (fe_callB cf_len (fa_cons (fe_var rfl) fa_nil)) fa_nil))) (fe_call rfl (fa_cons (fe_var rfl) (fa_cons (fe_callB cf_len (fa_cons (fe_var rfl) fa_nil)) fa_nil))))))⟩
/-! ### is_point -/
abbrev st_is_point : Stmt := topS 27
theorem sc_is_point : FnScope ["problem", "point", "number"] ["problem", "point"] (defScope st_is_point) := ⟨rfl, rfl, rfl, by decide +kernel, rfl, by decide +kernel, by decide +kernel⟩
def g_is_point : Rho → R :=
    (gSeq (gIfS (gOrT (gNotT (gTru (gIsi "list" (gVar 1)))) (gBl (gNe (gB bLen (gConsA (gVar 1) gNilA)) (gB bLen (gConsA (gFld "tops" 0 (gVar 0)) gNilA))))) (gRet (gC (.bool false))) gNext)
    (gRet (gB bAll (gConsA (gComp [2] (aName 2) gYes (gFn 1 f_is_whole (gConsA (gVar 2) gNilA)) (gItA (gVar 1))) gNilA))))
def f_is_point : List PyData → O PyData := fnG 3 g_is_point
theorem ok_is_point (T : Top K mg xc cls) : OkAt P w K mg base cls xc "is_point" ["problem", "point"] 2 2 f_is_point :=
  okAt_of T.d_is_point sc_is_point g_is_point [] fun f cdv A outer s H E F0 hr => ⟨_, (pss_cons (ps_if (PW.pt (pw_or (pt_not (pt_truth (pe_callB call_isi (by rfl) T.n_isinstance bt_isinstance (pa_cons (pv 1) (pa_cons (pe_bltn (v := .ty "list") (by rfl) T.n_list bt_list rfl) pa_nil))) (by intro _; rfl))) (pw_or1 (pt_cmpR (op_neAll hr.units) (pe_callB call_len (by rfl) T.n_len bt_len (pa_cons (pv 1) pa_nil)) (pe_callB call_len (by rfl) T.n_len bt_len (pa_cons (pe_fld (pv 0) rfl) pa_nil)) (nomark _))))) (pss_one (ps_ret pe_bl)) pss_nil)
      (pss_one (ps_ret (pe_callB (cr_all rfl) (by rfl) T.n_all bt_all (pa_cons (pe_lc (own := [("number", 2)]) rfl sc_is_point.nd (pi_any (pv 1)) (blkOk_by (N := ["problem", "point", "number"]) (sc := defScope st_is_point) (own := [("number", 2)]) (by decide +kernel)) (fun _ _ _ _ _ => (pg_name (i := 2) sc_is_point.nd rfl (by first | exact Or.inl rfl | exact Or.inr rfl))) (fun _ _ _ _ _ => pts_nil) (fun _ _ _ _ _ => (pe_callO (ok_is_whole T) hr (by decide) (by rfl) takes0 (pa_cons (pv 2) pa_nil)))) pa_nil))))),
    (fs_seq (own1 := []) (fs_if (own' := []) (ft_or (ft_not (ft_truth (fe_isi kit_list (fe_var rfl)))) (ft_test (fe_op opf_ne (fe_callB cf_len (fa_cons (fe_var rfl) fa_nil)) (fe_callB cf_len (fa_cons (fe_fld T.cl0 T.na_tops (fe_var rfl)) fa_nil))))) (fs_ret (fe_bool false)) fs_next)
      (fs_ret (fe_callB cf_all (fa_cons (fe_comp (vs := [2]) (fi_any (fe_var rfl)) (fc_name rfl rfl) aName_ex ft_yes (fe_call rfl (fa_cons (fe_var rfl) fa_nil))) fa_nil))))⟩
/-! ### check_point -/
abbrev st_check_point : Stmt := topS 28
theorem sc_check_point : FnScope ["problem", "point"] ["problem", "point"] (defScope st_check_point) := ⟨rfl, rfl, rfl, by decide +kernel, rfl, by decide +kernel, by decide +kernel⟩
def g_check_point : Rho → R :=
    (gIfS (gNotT (gTru (gFn 2 f_is_point (gConsA (gVar 0) (gConsA (gVar 1) gNilA))))) (gRaise 2) gNext)
def f_check_point : List PyData → O PyData := fnG 2 g_check_point
theorem ok_check_point (T : Top K mg xc cls) : OkAt P w K mg base cls xc "check_point" ["problem", "point"] 2 3 f_check_point :=
  okAt_of T.d_check_point sc_check_point g_check_point [] fun f cdv A outer s H E F0 hr => ⟨_, (pss_one (ps_if (pt_not (pt_truth (pe_callO (ok_is_point T) hr (by decide) (by rfl) (takes_of rfl rfl rfl rfl) (pa_cons (pv 0) (pa_cons (pv 1) pa_nil))) (by intro _; rfl))) (pss_one (ps_raiseO rfl (takes_of rfl rfl rfl rfl) T.e_BadPoint (by rfl))) pss_nil)),
    (fs_if (own' := []) (ft_not (ft_truth (fe_call rfl (fa_cons (fe_var rfl) (fa_cons (fe_var rfl) fa_nil))))) (fs_raise (n := 2) rfl rfl) fs_next)⟩
/-! ### holds -/
abbrev st_holds : Stmt := topS 30
theorem sc_holds : FnScope ["row", "point", "numbers", "word", "bound", "total"] ["row", "point"] (defScope st_holds) := ⟨rfl, rfl, rfl, by decide +kernel, rfl, by decide +kernel, by decide +kernel⟩
def g_holds : Rho → R :=
    (gSeq (gAsg (aTup (aCons (aName 2) (aCons (aName 3) (aCons (aName 4) aNil)))) (gVar 0))
    (gSeq (gSet 5 (gFn 2 f_products_sum (gConsA (gVar 2) (gConsA (gVar 1) gNilA))))
    (gSeq (gIfS (gBl (gEq (gVar 3) (gC (.str "most")))) (gRet (gLe (gVar 5) (gVar 4))) gNext)
    (gRet (gGe (gVar 5) (gVar 4))))))
def f_holds : List PyData → O PyData := fnG 6 g_holds
theorem ok_holds (T : Top K mg xc cls) : OkAt P w K mg base cls xc "holds" ["row", "point"] 2 2 f_holds :=
  okAt_of T.d_holds sc_holds g_holds [] fun f cdv A outer s H E F0 hr => ⟨_, (pss_cons (ps_asg (pv 0) (pg_tup (by rfl) (pgs_cons (pg_name (i := 2) sc_holds.nd rfl (by first | exact Or.inl rfl | exact Or.inr rfl)) (pgs_cons (pg_name (i := 3) sc_holds.nd rfl (by first | exact Or.inl rfl | exact Or.inr rfl)) (pgs_cons (pg_name (i := 4) sc_holds.nd rfl (by first | exact Or.inl rfl | exact Or.inr rfl)) pgs_nil)))))
      (pss_cons (ps_set (i := 5) sc_holds.nd rfl (by first | exact Or.inl rfl | exact Or.inr rfl) (pe_callO (ok_products_sum T) hr (by decide) (by rfl) (takes_of rfl rfl rfl rfl) (pa_cons (pv 2) (pa_cons (pv 1) pa_nil))))
      (pss_cons (ps_if (pt_cmpR (op_eqAll hr.units) (pv 3) pe_str (nomark _)) (pss_one (ps_ret (pe_cmpR op_le (pv 5) (pv 4) (nomark _)))) pss_nil)
      (pss_one (ps_ret (pe_cmpR op_ge (pv 5) (pv 4) (nomark _))))))),
    (fs_seq (own1 := []) (fs_asg (fe_var rfl) (fg_tup (fgs_cons (fg_name rfl) (fgs_cons (fg_name rfl) (fgs_cons (fg_name rfl) fgs_nil))) (aCons_len (aCons_len (aCons_len aNil_len aName_ex) aName_ex) aName_ex)) (aTup_ex (aCons_ex aName_ex (aCons_ex aName_ex (aCons_ex aName_ex aNil_ex)))))
      (fs_seq (own1 := []) (fs_set (fe_call rfl (fa_cons (fe_var rfl) (fa_cons (fe_var rfl) fa_nil))) rfl)
      (fs_seq (own1 := []) (fs_if (own' := []) (ft_test (fe_op opf_eq (fe_var rfl) (fe_str "most"))) (fs_ret (fe_op opf_le (fe_var rfl) (fe_var rfl))) fs_next)
      (fs_ret (fe_op opf_ge (fe_var rfl) (fe_var rfl))))))⟩
/-! ### meets -/
abbrev st_meets : Stmt := topS 29
theorem sc_meets : FnScope ["problem", "point", "number", "top", "row"] ["problem", "point"] (defScope st_meets) := ⟨rfl, rfl, rfl, by decide +kernel, rfl, by decide +kernel, by decide +kernel⟩
def g_meets : Rho → R :=
    (gSeq (gDrop (gFn 2 f_check_point (gConsA (gVar 0) (gConsA (gVar 1) gNilA))))
    (gSeq (gIfS (gNotT (gTru (gB bAll (gConsA (gComp [2, 3] (aTup (aCons (aName 2) (aCons (aName 3) aNil))) gYes (gFn 3 f_is_within (gConsA (gVar 2) (gConsA (gC (.int 0)) (gConsA (gVar 3) gNilA)))) (gZipM (gConsA (gVar 1) (gConsA (gFld "tops" 0 (gVar 0)) gNilA)))) gNilA)))) (gRet (gC (.bool false))) gNext)
    (gRet (gB bAll (gConsA (gComp [4] (aName 4) gYes (gFn 2 f_holds (gConsA (gVar 4) (gConsA (gVar 1) gNilA))) (gItA (gFld "rows" 0 (gVar 0)))) gNilA)))))
def f_meets : List PyData → O PyData := fnG 5 g_meets
theorem ok_meets (T : Top K mg xc cls) : OkAt P w K mg base cls xc "meets" ["problem", "point"] 2 4 f_meets :=
  okAt_of T.d_meets sc_meets g_meets [] fun f cdv A outer s H E F0 hr => ⟨_, (pss_cons (ps_expr (pe_callO (ok_check_point T) hr (by decide) (by rfl) (takes_of rfl rfl rfl rfl) (pa_cons (pv 0) (pa_cons (pv 1) pa_nil))))
      (pss_cons (ps_if (pt_not (pt_truth (pe_callB (cr_all rfl) (by rfl) T.n_all bt_all (pa_cons (pe_lc (own := [("number", 2), ("top", 3)]) rfl sc_meets.nd (FnZ.pi_zipM (by rfl) T.n_zip (pa_cons (pv 1) (pa_cons (pe_fld (pv 0) rfl) pa_nil))) (blkOk_by (N := ["problem", "point", "number", "top", "row"]) (sc := defScope st_meets) (own := [("number", 2), ("top", 3)]) (by decide +kernel)) (fun _ _ _ _ _ => (pg_tup (by rfl) (pgs_cons (pg_name (i := 2) sc_meets.nd rfl (by first | exact Or.inl rfl | exact Or.inr rfl)) (pgs_cons (pg_name (i := 3) sc_meets.nd rfl (by first | exact Or.inl rfl | exact Or.inr rfl)) pgs_nil)))) (fun _ _ _ _ _ => pts_nil) (fun _ _ _ _ _ => (pe_callO (ok_is_within T) hr (by decide) (by rfl) takes0 (pa_cons (pv 2) (pa_cons pe_int (pa_cons (pv 3) pa_nil)))))) pa_nil)) (by intro _; rfl))) (pss_one (ps_ret pe_bl)) pss_nil)
      (pss_one (ps_ret (pe_callB (cr_all rfl) (by rfl) T.n_all bt_all (pa_cons (pe_lc (own := [("row", 4)]) rfl sc_meets.nd (pi_any (pe_fld (pv 0) rfl)) (blkOk_by (N := ["problem", "point", "number", "top", "row"]) (sc := defScope st_meets) (own := [("row", 4)]) (by decide +kernel)) (fun _ _ _ _ _ => (pg_name (i := 4) sc_meets.nd rfl (by first | exact Or.inl rfl | exact Or.inr rfl))) (fun _ _ _ _ _ => pts_nil) (fun _ _ _ _ _ => (pe_callO (ok_holds T) hr (by decide) (by rfl) takes0 (pa_cons (pv 4) (pa_cons (pv 1) pa_nil))))) pa_nil)))))),
    (fs_seq (own1 := []) (fs_drop (fe_call rfl (fa_cons (fe_var rfl) (fa_cons (fe_var rfl) fa_nil))))
      (fs_seq (own1 := []) (fs_if (own' := []) (ft_not (ft_truth (fe_callB cf_all (fa_cons (fe_comp (vs := [2, 3]) (fi_zipM (fa_cons (fe_var rfl) (fa_cons (fe_fld T.cl0 T.na_tops (fe_var rfl)) fa_nil))) (fc_tup (fcs_cons (fc_name rfl rfl) (fcs_cons (fc_name rfl rfl) fcs_nil)) (aCons_len (aCons_len aNil_len aName_ex) aName_ex)) (aTup_ex (aCons_ex aName_ex (aCons_ex aName_ex aNil_ex))) ft_yes (fe_call rfl (fa_cons (fe_var rfl) (fa_cons (fe_int 0) (fa_cons (fe_var rfl) fa_nil))))) fa_nil)))) (fs_ret (fe_bool false)) fs_next)
      (fs_ret (fe_callB cf_all (fa_cons (fe_comp (vs := [4]) (fi_any (fe_fld T.cl0 T.na_rows (fe_var rfl))) (fc_name rfl rfl) aName_ex ft_yes (fe_call rfl (fa_cons (fe_var rfl) (fa_cons (fe_var rfl) fa_nil)))) fa_nil)))))⟩
/-! ### gained -/
abbrev st_gained : Stmt := topS 31
theorem sc_gained : FnScope ["problem", "point"] ["problem", "point"] (defScope st_gained) := ⟨rfl, rfl, rfl, by decide +kernel, rfl, by decide +kernel, by decide +kernel⟩
def g_gained : Rho → R :=
    (gSeq (gDrop (gFn 2 f_check_point (gConsA (gVar 0) (gConsA (gVar 1) gNilA))))
    (gRet (gFn 2 f_products_sum (gConsA (gFld "gain" 0 (gVar 0)) (gConsA (gVar 1) gNilA)))))
def f_gained : List PyData → O PyData := fnG 2 g_gained
theorem ok_gained (T : Top K mg xc cls) : OkAt P w K mg base cls xc "gained" ["problem", "point"] 2 4 f_gained :=
  okAt_of T.d_gained sc_gained g_gained [] fun f cdv A outer s H E F0 hr => ⟨_, (pss_cons (ps_expr (pe_callO (ok_check_point T) hr (by decide) (by rfl) (takes_of rfl rfl rfl rfl) (pa_cons (pv 0) (pa_cons (pv 1) pa_nil))))
      (pss_one (ps_ret (pe_callO (ok_products_sum T) hr (by decide) (by rfl) (takes_of rfl rfl rfl rfl) (pa_cons (pe_fld (pv 0) rfl) (pa_cons (pv 1) pa_nil)))))),
    (fs_seq (own1 := []) (fs_drop (fe_call rfl (fa_cons (fe_var rfl) (fa_cons (fe_var rfl) fa_nil))))
      (fs_ret (fe_call rfl (fa_cons (fe_fld T.cl0 T.na_gain (fe_var rfl)) (fa_cons (fe_var rfl) fa_nil)))))⟩
/-! ### _law_cell_at -/
abbrev st__law_cell_at : Stmt := topS 33
theorem sc__law_cell_at : FnScope ["_law_script", "_law_k", "_law_cell"] ["_law_script", "_law_k"] (defScope st__law_cell_at) := ⟨rfl, rfl, rfl, by decide +kernel, rfl, by decide +kernel, by decide +kernel⟩
def g__law_cell_at : Rho → R :=
    (gSeq (gSet 2 (gC (.int 0)))
    (gSeq (gIfS (gBl (gGt (gB bLen (gConsA (gVar 0) gNilA)) (gC (.int 0)))) (gSet 2 (gIx (gVar 0) (gMod (gVar 1) (gB bLen (gConsA (gVar 0) gNilA))))) gNext)
    (gRet (gMod (gMul (gAdd (gVar 2) (gMul (gC (.int 17)) (gVar 1))) (gC (.int 48271))) (gC (.int 1000003))))))
def f__law_cell_at : List PyData → O PyData := fnG 3 g__law_cell_at
theorem ok__law_cell_at (T : Top K mg xc cls) : OkAt P w K mg base cls xc "_law_cell_at" ["_law_script", "_law_k"] 2 1 f__law_cell_at :=
  okAt_of T.d__law_cell_at sc__law_cell_at g__law_cell_at [] fun f cdv A outer s H E F0 hr => ⟨_, (pss_cons (ps_set (i := 2) sc__law_cell_at.nd rfl (by first | exact Or.inl rfl | exact Or.inr rfl) pe_int)
      (pss_cons (ps_if (pt_cmpR op_gt (pe_callB call_len (by rfl) T.n_len bt_len (pa_cons (pv 0) pa_nil)) pe_int (nomark _)) (pss_one (ps_set (i := 2) sc__law_cell_at.nd rfl (by first | exact Or.inl rfl | exact Or.inr rfl) (pe_ix ix_seq (pv 0) (pe_op op_mod (pv 1) (pe_callB call_len (by rfl) T.n_len bt_len (pa_cons (pv 0) pa_nil))) (fun _ _ => rfl)))) pss_nil)
      (pss_one (ps_ret (pe_op op_mod (pe_op op_mulAll (pe_op op_addAll (pv 2) (pe_op op_mulAll pe_int (pv 1))) pe_int) pe_int))))),
    (fs_seq (own1 := []) (fs_set (fe_int 0) rfl)
      (fs_seq (own1 := []) (fs_if (own' := []) (ft_test (fe_op opf_gt (fe_callB cf_len (fa_cons (fe_var rfl) fa_nil)) (fe_int 0))) (fs_set (fe_op opf_ix (fe_var rfl) (fe_op opf_mod (fe_var rfl) (fe_callB cf_len (fa_cons (fe_var rfl) fa_nil)))) rfl) fs_next)
      (fs_ret (fe_op opf_mod (fe_op opf_mul (fe_op opf_add (fe_var rfl) (fe_op opf_mul (fe_int 17) (fe_var rfl))) (fe_int 48271)) (fe_int 1000003)))))⟩
/-! ### _law_whole -/
abbrev st__law_whole : Stmt := topS 34
theorem sc__law_whole : FnScope ["_law_found"] ["_law_found"] (defScope st__law_whole) := ⟨rfl, rfl, rfl, by decide +kernel, rfl, by decide +kernel, by decide +kernel⟩
def g__law_whole : Rho → R :=
    (gRet (gAndV (gIsi "int" (gVar 0)) (gNotV (gIsi "bool" (gVar 0)))))
def f__law_whole : List PyData → O PyData := fnG 1 g__law_whole
theorem ok__law_whole (T : Top K mg xc cls) : OkAt P w K mg base cls xc "_law_whole" ["_law_found"] 1 1 f__law_whole :=
  okAt_of T.d__law_whole sc__law_whole g__law_whole [] fun f cdv A outer s H E F0 hr => ⟨_, (pss_one (ps_ret (pe_and (pe_callB call_isi (by rfl) T.n_isinstance bt_isinstance (pa_cons (pv 0) (pa_cons (pe_bltn (v := .ty "int") (by rfl) T.n_int bt_int rfl) pa_nil))) (pe_one (pe_not (pe_callB call_isi (by rfl) T.n_isinstance bt_isinstance (pa_cons (pv 0) (pa_cons (pe_bltn (v := .ty "bool") (by rfl) T.n_bool bt_bool rfl) pa_nil)))))))),
    (fs_ret (fe_and (fe_isi kit_int (fe_var rfl)) (fe_not (fe_isi kit_bool (fe_var rfl)))))⟩
/-! ### _law_number -/
abbrev st__law_number : Stmt := topS 35
theorem sc__law_number : FnScope ["_law_cell", "_law_kind_here"] ["_law_cell", "_law_kind_here"] (defScope st__law_number) := ⟨rfl, rfl, rfl, by decide +kernel, rfl, by decide +kernel, by decide +kernel⟩
def g__law_number : Rho → R :=
    (gSeq (gIfS (gBl (gEq (gVar 1) (gC (.int 0)))) (gRet (gSub' (gMod (gVar 0) (gC (.int 7))) (gC (.int 3)))) gNext)
    (gSeq (gIfS (gBl (gEq (gVar 1) (gC (.int 1)))) (gRet (gSub' (gMod (gVar 0) (gC (.int 101))) (gC (.int 50)))) gNext)
    (gSeq (gIfS (gBl (gEq (gMod (gFdiv (gVar 0) (gC (.int 11))) (gC (.int 6))) (gC (.int 5)))) (gRet (gSub' (gSub' (gC (.int 0)) (gC (.int 2))) (gMod (gVar 0) (gC (.int 11))))) gNext)
    (gRet (gAdd (gC (.int 2)) (gMod (gVar 0) (gC (.int 11))))))))
def f__law_number : List PyData → O PyData := fnG 2 g__law_number
theorem ok__law_number (T : Top K mg xc cls) : OkAt P w K mg base cls xc "_law_number" ["_law_cell", "_law_kind_here"] 2 1 f__law_number :=
  okAt_of T.d__law_number sc__law_number g__law_number [] fun f cdv A outer s H E F0 hr => ⟨_, (pss_cons (ps_if (pt_cmpR (op_eqAll hr.units) (pv 1) pe_int (nomark _)) (pss_one (ps_ret (pe_op op_sub (pe_op op_mod (pv 0) pe_int) pe_int))) pss_nil)
      (pss_cons (ps_if (pt_cmpR (op_eqAll hr.units) (pv 1) pe_int (nomark _)) (pss_one (ps_ret (pe_op op_sub (pe_op op_mod (pv 0) pe_int) pe_int))) pss_nil)
      (pss_cons (ps_if (pt_cmpR (op_eqAll hr.units) (pe_op op_mod (pe_op op_fdivW (pv 0) pe_int) pe_int) pe_int (nomark _)) (pss_one (ps_ret (pe_op op_sub (pe_op op_sub pe_int pe_int) (pe_op op_mod (pv 0) pe_int)))) pss_nil)
      (pss_one (ps_ret (pe_op op_addAll pe_int (pe_op op_mod (pv 0) pe_int))))))),
    (fs_seq (own1 := []) (fs_if (own' := []) (ft_test (fe_op opf_eq (fe_var rfl) (fe_int 0))) (fs_ret (fe_op opf_sub (fe_op opf_mod (fe_var rfl) (fe_int 7)) (fe_int 3))) fs_next)
      (fs_seq (own1 := []) (fs_if (own' := []) (ft_test (fe_op opf_eq (fe_var rfl) (fe_int 1))) (fs_ret (fe_op opf_sub (fe_op opf_mod (fe_var rfl) (fe_int 101)) (fe_int 50))) fs_next)
      (fs_seq (own1 := []) (fs_if (own' := []) (ft_test (fe_op opf_eq (fe_op opf_mod (fe_op opf_fdiv (fe_var rfl) (fe_int 11)) (fe_int 6)) (fe_int 5))) (fs_ret (fe_op opf_sub (fe_op opf_sub (fe_int 0) (fe_int 2)) (fe_op opf_mod (fe_var rfl) (fe_int 11)))) fs_next)
      (fs_ret (fe_op opf_add (fe_int 2) (fe_op opf_mod (fe_var rfl) (fe_int 11)))))))⟩
/-! ### _law_bound -/
abbrev st__law_bound : Stmt := topS 36
theorem sc__law_bound : FnScope ["_law_cell", "_law_kind_here"] ["_law_cell", "_law_kind_here"] (defScope st__law_bound) := ⟨rfl, rfl, rfl, by decide +kernel, rfl, by decide +kernel, by decide +kernel⟩
def g__law_bound : Rho → R :=
    (gSeq (gIfS (gBl (gEq (gVar 1) (gC (.int 0)))) (gRet (gSub' (gMod (gVar 0) (gC (.int 41))) (gC (.int 12)))) gNext)
    (gSeq (gIfS (gAndT (gBl (gEq (gVar 1) (gC (.int 1)))) (gBl (gEq (gMod (gVar 0) (gC (.int 4))) (gC (.int 0))))) (gRet (gSub' (gMod (gFdiv (gVar 0) (gC (.int 4))) (gC (.int 4001))) (gC (.int 2000)))) gNext)
    (gSeq (gIfS (gBl (gEq (gVar 1) (gC (.int 1)))) (gRet (gSub' (gMod (gFdiv (gVar 0) (gC (.int 4))) (gC (.int 401))) (gC (.int 200)))) gNext)
    (gRet (gAdd (gC (.int 2)) (gMod (gVar 0) (gC (.int 31))))))))
def f__law_bound : List PyData → O PyData := fnG 2 g__law_bound
theorem ok__law_bound (T : Top K mg xc cls) : OkAt P w K mg base cls xc "_law_bound" ["_law_cell", "_law_kind_here"] 2 1 f__law_bound :=
  okAt_of T.d__law_bound sc__law_bound g__law_bound [] fun f cdv A outer s H E F0 hr => ⟨_, (pss_cons (ps_if (pt_cmpR (op_eqAll hr.units) (pv 1) pe_int (nomark _)) (pss_one (ps_ret (pe_op op_sub (pe_op op_mod (pv 0) pe_int) pe_int))) pss_nil)
      (pss_cons (ps_if (PW.pt (pw_and (pt_cmpR (op_eqAll hr.units) (pv 1) pe_int (nomark _)) (pw_and1 (pt_cmpR (op_eqAll hr.units) (pe_op op_mod (pv 0) pe_int) pe_int (nomark _))))) (pss_one (ps_ret (pe_op op_sub (pe_op op_mod (pe_op op_fdivW (pv 0) pe_int) pe_int) pe_int))) pss_nil)
      (pss_cons (ps_if (pt_cmpR (op_eqAll hr.units) (pv 1) pe_int (nomark _)) (pss_one (ps_ret (pe_op op_sub (pe_op op_mod (pe_op op_fdivW (pv 0) pe_int) pe_int) pe_int))) pss_nil)
      (pss_one (ps_ret (pe_op op_addAll pe_int (pe_op op_mod (pv 0) pe_int))))))),
    (fs_seq (own1 := []) (fs_if (own' := []) (ft_test (fe_op opf_eq (fe_var rfl) (fe_int 0))) (fs_ret (fe_op opf_sub (fe_op opf_mod (fe_var rfl) (fe_int 41)) (fe_int 12))) fs_next)
      (fs_seq (own1 := []) (fs_if (own' := []) (ft_and (ft_test (fe_op opf_eq (fe_var rfl) (fe_int 1))) (ft_test (fe_op opf_eq (fe_op opf_mod (fe_var rfl) (fe_int 4)) (fe_int 0)))) (fs_ret (fe_op opf_sub (fe_op opf_mod (fe_op opf_fdiv (fe_var rfl) (fe_int 4)) (fe_int 4001)) (fe_int 2000))) fs_next)
      (fs_seq (own1 := []) (fs_if (own' := []) (ft_test (fe_op opf_eq (fe_var rfl) (fe_int 1))) (fs_ret (fe_op opf_sub (fe_op opf_mod (fe_op opf_fdiv (fe_var rfl) (fe_int 4)) (fe_int 401)) (fe_int 200))) fs_next)
      (fs_ret (fe_op opf_add (fe_int 2) (fe_op opf_mod (fe_var rfl) (fe_int 31)))))))⟩
/-! ### _law_tops -/
abbrev st__law_tops : Stmt := topS 37
theorem sc__law_tops : FnScope ["_law_script", "_law_many", "_law_tops_here", "_law_k", "_law_cell"] ["_law_script"] (defScope st__law_tops) := ⟨rfl, rfl, rfl, by decide +kernel, rfl, by decide +kernel, by decide +kernel⟩
def g__law_tops : Rho → R :=
    (gSeq (gSet 1 (gIx (gLst (gConsA (gC (.int 1)) (gConsA (gC (.int 2)) (gConsA (gC (.int 3)) (gConsA (gC (.int 3)) gNilA))))) (gMod (gFn 2 f__law_cell_at (gConsA (gVar 0) (gConsA (gC (.int 0)) gNilA))) (gC (.int 4)))))
    (gSeq (gSet 2 (gComp [3] (aName 3) gYes (gMod (gFdiv (gFn 2 f__law_cell_at (gConsA (gVar 0) (gConsA (gAdd (gC (.int 1)) (gVar 3)) gNilA))) (gC (.int 4))) (gC (.int 5))) (gRng1 (gConsA (gVar 1) gNilA))))
    (gSeq (gSet 4 (gFn 2 f__law_cell_at (gConsA (gVar 0) (gConsA (gC (.int 1)) gNilA))))
    (gSeq (gIfS (gBl (gEq (gMod (gVar 4) (gC (.int 16))) (gC (.int 9)))) (gFor (aName 3) (gRng1 (gConsA (gB bMin (gConsA (gVar 1) (gConsA (gC (.int 2)) gNilA))) gNilA)) (gSetIx 2 (gVar 3) (gMod (gFdiv (gFn 2 f__law_cell_at (gConsA (gVar 0) (gConsA (gAdd (gC (.int 1)) (gVar 3)) gNilA))) (gC (.int 16))) (gC (.int 21))))) gNext)
    (gSeq (gIfS (gBl (gEq (gMod (gVar 4) (gC (.int 4))) (gC (.int 3)))) (gSetIx 2 (gMod (gFdiv (gFn 2 f__law_cell_at (gConsA (gVar 0) (gConsA (gC (.int 0)) gNilA))) (gC (.int 768))) (gVar 1)) (gMod (gFdiv (gVar 4) (gC (.int 4))) (gC (.int 21)))) gNext)
    (gRet (gVar 2)))))))
def f__law_tops : List PyData → O PyData := fnG 5 g__law_tops
theorem ok__law_tops (T : Top K mg xc cls) : OkAt P w K mg base cls xc "_law_tops" ["_law_script"] 1 2 f__law_tops :=
  okAt_of T.d__law_tops sc__law_tops g__law_tops [2] fun f cdv A outer s H E F0 hr => ⟨_, (pss_cons (ps_set (i := 1) sc__law_tops.nd rfl (by first | exact Or.inl rfl | exact Or.inr rfl) (pe_ix ix_seq (pe_lst (pa_cons pe_int (pa_cons pe_int (pa_cons pe_int (pa_cons pe_int pa_nil))))) (pe_op op_mod (pe_callO (ok__law_cell_at T) hr (by decide) (by rfl) (takes_of rfl rfl rfl rfl) (pa_cons (pv 0) (pa_cons pe_int pa_nil))) pe_int) (fun _ _ => rfl)))
      (pss_cons (ps_setLc (i := 2) (own := [("_law_k", 3)]) rfl sc__law_tops.nd rfl rfl (sw_true rfl rfl rfl (by decide +kernel)) (pi_range1 (by rfl) T.n_range (pa_cons (pv 1) pa_nil)) (blkOk_by (N := ["_law_script", "_law_many", "_law_tops_here", "_law_k", "_law_cell"]) (sc := defScope st__law_tops) (own := [("_law_k", 3)]) (by decide +kernel)) (fun _ _ _ _ _ => (pg_name (i := 3) sc__law_tops.nd rfl (by first | exact Or.inl rfl | exact Or.inr rfl))) (fun _ _ _ _ _ => pts_nil) (fun _ _ _ _ _ => (pe_op op_mod (pe_op op_fdivW (pe_callO (ok__law_cell_at T) hr (by decide) (by rfl) takes0 (pa_cons (pv 0) (pa_cons (pe_op op_addAll pe_int (pv 3)) pa_nil))) pe_int) pe_int)))
      (pss_cons (ps_set (i := 4) sc__law_tops.nd rfl (by first | exact Or.inl rfl | exact Or.inr rfl) (pe_callO (ok__law_cell_at T) hr (by decide) (by rfl) (takes_of rfl rfl rfl rfl) (pa_cons (pv 0) (pa_cons pe_int pa_nil))))
      (pss_cons (ps_if (pt_cmpR (op_eqAll hr.units) (pe_op op_mod (pv 4) pe_int) pe_int (nomark _)) (pss_one (ps_for (passes_of rfl) rfl (pi_range1 (by rfl) T.n_range (pa_cons (pe_callB (cr_minAll rfl) (by rfl) T.n_min bt_min (pa_cons (pv 1) (pa_cons pe_int pa_nil))) pa_nil)) (pg_name (i := 3) sc__law_tops.nd rfl (by first | exact Or.inl rfl | exact Or.inr rfl)) (pss_one (ps_asg (pe_op op_mod (pe_op op_fdivW (pe_callO (ok__law_cell_at T) hr (by decide) (by rfl) (takes_of rfl rfl rfl rfl) (pa_cons (pv 0) (pa_cons (pe_op op_addAll pe_int (pv 3)) pa_nil))) pe_int) pe_int) (pg_sub (pv 2) (pv 3) set_list))))) pss_nil)
      (pss_cons (ps_if (pt_cmpR (op_eqAll hr.units) (pe_op op_mod (pv 4) pe_int) pe_int (nomark _)) (pss_one (ps_asg (pe_op op_mod (pe_op op_fdivW (pv 4) pe_int) pe_int) (pg_sub (pv 2) (pe_op op_mod (pe_op op_fdivW (pe_callO (ok__law_cell_at T) hr (by decide) (by rfl) (takes_of rfl rfl rfl rfl) (pa_cons (pv 0) (pa_cons pe_int pa_nil))) pe_int) (pv 1)) set_list))) pss_nil)
      (pss_one (ps_ret (pv 2)))))))),
    (fs_seq (own1 := []) (fs_set (fe_op opf_ix (fe_lst (fa_cons (fe_int 1) (fa_cons (fe_int 2) (fa_cons (fe_int 3) (fa_cons (fe_int 3) fa_nil))))) (fe_op opf_mod (fe_call rfl (fa_cons (fe_var rfl) (fa_cons (fe_int 0) fa_nil))) (fe_int 4))) rfl)
      (fs_seq (own1 := [2]) (fs_setO (own' := [2]) (fo_comp (vs := [3]) (fi_range1 (fa_cons (fe_var rfl) fa_nil)) (fc_name rfl rfl) aName_ex ft_yes (fe_op opf_mod (fe_op opf_fdiv (fe_call rfl (fa_cons (fe_var rfl) (fa_cons (fe_op opf_add (fe_int 1) (fe_var rfl)) fa_nil))) (fe_int 4)) (fe_int 5))) gComp_list rfl)
      (fs_seq (own1 := [2]) (fs_set (fe_call rfl (fa_cons (fe_var rfl) (fa_cons (fe_int 1) fa_nil))) rfl)
      (fs_seq (own1 := [2]) (fs_if (own' := [2]) (ft_test (fe_op opf_eq (fe_op opf_mod (fe_var rfl) (fe_int 16)) (fe_int 9))) (fs_for (fi_range1 (fa_cons (fe_callB cf_min (fa_cons (fe_var rfl) (fa_cons (fe_int 2) fa_nil))) fa_nil)) (fg_name rfl) aName_ex (fs_setIx (fe_op opf_mod (fe_op opf_fdiv (fe_call rfl (fa_cons (fe_var rfl) (fa_cons (fe_op opf_add (fe_int 1) (fe_var rfl)) fa_nil))) (fe_int 16)) (fe_int 21)) (fe_var rfl) rfl)) fs_next)
      (fs_seq (own1 := [2]) (fs_if (own' := [2]) (ft_test (fe_op opf_eq (fe_op opf_mod (fe_var rfl) (fe_int 4)) (fe_int 3))) (fs_setIx (fe_op opf_mod (fe_op opf_fdiv (fe_var rfl) (fe_int 4)) (fe_int 21)) (fe_op opf_mod (fe_op opf_fdiv (fe_call rfl (fa_cons (fe_var rfl) (fa_cons (fe_int 0) fa_nil))) (fe_int 768)) (fe_var rfl)) rfl) fs_next)
      (fs_ret (fe_var rfl)))))))⟩
/-! ### _law_kind -/
abbrev st__law_kind : Stmt := topS 38
theorem sc__law_kind : FnScope ["_law_script"] ["_law_script"] (defScope st__law_kind) := ⟨rfl, rfl, rfl, by decide +kernel, rfl, by decide +kernel, by decide +kernel⟩
def g__law_kind : Rho → R :=
    (gRet (gMod (gFdiv (gFn 2 f__law_cell_at (gConsA (gVar 0) (gConsA (gC (.int 0)) gNilA))) (gC (.int 4))) (gC (.int 4))))
def f__law_kind : List PyData → O PyData := fnG 1 g__law_kind
theorem ok__law_kind (T : Top K mg xc cls) : OkAt P w K mg base cls xc "_law_kind" ["_law_script"] 1 2 f__law_kind :=
  okAt_of T.d__law_kind sc__law_kind g__law_kind [] fun f cdv A outer s H E F0 hr => ⟨_, (pss_one (ps_ret (pe_op op_mod (pe_op op_fdivW (pe_callO (ok__law_cell_at T) hr (by decide) (by rfl) (takes_of rfl rfl rfl rfl) (pa_cons (pv 0) (pa_cons pe_int pa_nil))) pe_int) pe_int))),
    (fs_ret (fe_op opf_mod (fe_op opf_fdiv (fe_call rfl (fa_cons (fe_var rfl) (fa_cons (fe_int 0) fa_nil))) (fe_int 4)) (fe_int 4)))⟩
/-! ### _law_gain -/
abbrev st__law_gain : Stmt := topS 39
theorem sc__law_gain : FnScope ["_law_script", "_law_many", "_law_k"] ["_law_script"] (defScope st__law_gain) := ⟨rfl, rfl, rfl, by decide +kernel, rfl, by decide +kernel, by decide +kernel⟩
def g__law_gain : Rho → R :=
    (gSeq (gSet 1 (gIx (gLst (gConsA (gC (.int 1)) (gConsA (gC (.int 2)) (gConsA (gC (.int 3)) (gConsA (gC (.int 3)) gNilA))))) (gMod (gFn 2 f__law_cell_at (gConsA (gVar 0) (gConsA (gC (.int 0)) gNilA))) (gC (.int 4)))))
    (gRet (gComp [2] (aName 2) gYes (gFn 2 f__law_number (gConsA (gFn 2 f__law_cell_at (gConsA (gVar 0) (gConsA (gAdd (gC (.int 4)) (gVar 2)) gNilA))) (gConsA (gFn 1 f__law_kind (gConsA (gVar 0) gNilA)) gNilA))) (gRng1 (gConsA (gVar 1) gNilA)))))
def f__law_gain : List PyData → O PyData := fnG 3 g__law_gain
theorem ok__law_gain (T : Top K mg xc cls) : OkAt P w K mg base cls xc "_law_gain" ["_law_script"] 1 3 f__law_gain :=
  okAt_of T.d__law_gain sc__law_gain g__law_gain [] fun f cdv A outer s H E F0 hr => ⟨_, (pss_cons (ps_set (i := 1) sc__law_gain.nd rfl (by first | exact Or.inl rfl | exact Or.inr rfl) (pe_ix ix_seq (pe_lst (pa_cons pe_int (pa_cons pe_int (pa_cons pe_int (pa_cons pe_int pa_nil))))) (pe_op op_mod (pe_callO (ok__law_cell_at T) hr (by decide) (by rfl) (takes_of rfl rfl rfl rfl) (pa_cons (pv 0) (pa_cons pe_int pa_nil))) pe_int) (fun _ _ => rfl)))
      (pss_one (ps_ret (pe_lc (own := [("_law_k", 2)]) rfl sc__law_gain.nd (pi_range1 (by rfl) T.n_range (pa_cons (pv 1) pa_nil)) (blkOk_by (N := ["_law_script", "_law_many", "_law_k"]) (sc := defScope st__law_gain) (own := [("_law_k", 2)]) (by decide +kernel)) (fun _ _ _ _ _ => (pg_name (i := 2) sc__law_gain.nd rfl (by first | exact Or.inl rfl | exact Or.inr rfl))) (fun _ _ _ _ _ => pts_nil) (fun _ _ _ _ _ => (pe_callO (ok__law_number T) hr (by decide) (by rfl) takes0 (pa_cons (pe_callO (ok__law_cell_at T) hr (by decide) (by rfl) takes0 (pa_cons (pv 0) (pa_cons (pe_op op_addAll pe_int (pv 2)) pa_nil))) (pa_cons (pe_callO (ok__law_kind T) hr (by decide) (by rfl) takes0 (pa_cons (pv 0) pa_nil)) pa_nil)))))))),
    (fs_seq (own1 := []) (fs_set (fe_op opf_ix (fe_lst (fa_cons (fe_int 1) (fa_cons (fe_int 2) (fa_cons (fe_int 3) (fa_cons (fe_int 3) fa_nil))))) (fe_op opf_mod (fe_call rfl (fa_cons (fe_var rfl) (fa_cons (fe_int 0) fa_nil))) (fe_int 4))) rfl)
      (fs_ret (fe_comp (vs := [2]) (fi_range1 (fa_cons (fe_var rfl) fa_nil)) (fc_name rfl rfl) aName_ex ft_yes (fe_call rfl (fa_cons (fe_call rfl (fa_cons (fe_var rfl) (fa_cons (fe_op opf_add (fe_int 4) (fe_var rfl)) fa_nil))) (fa_cons (fe_call rfl (fa_cons (fe_var rfl) fa_nil)) fa_nil))))))⟩
/-! ### _law_rows -/
abbrev st__law_rows : Stmt := topS 40
theorem sc__law_rows : FnScope ["_law_script", "_law_many", "_law_kind_here", "_law_size", "_law_rows_here", "_law_at", "_law_first", "_law_numbers", "_law_last", "_law_word", "_law_k"] ["_law_script"] (defScope st__law_rows) := ⟨rfl, rfl, rfl, by decide +kernel, rfl, by decide +kernel, by decide +kernel⟩
def g__law_rows : Rho → R :=
    (gSeq (gSet 1 (gIx (gLst (gConsA (gC (.int 1)) (gConsA (gC (.int 2)) (gConsA (gC (.int 3)) (gConsA (gC (.int 3)) gNilA))))) (gMod (gFn 2 f__law_cell_at (gConsA (gVar 0) (gConsA (gC (.int 0)) gNilA))) (gC (.int 4)))))
    (gSeq (gSet 2 (gFn 1 f__law_kind (gConsA (gVar 0) gNilA)))
    (gSeq (gSet 3 (gMod (gFdiv (gFn 2 f__law_cell_at (gConsA (gVar 0) (gConsA (gC (.int 0)) gNilA))) (gC (.int 16))) (gC (.int 6))))
    (gSeq (gIfS (gBl (gEq (gMod (gFdiv (gFn 2 f__law_cell_at (gConsA (gVar 0) (gConsA (gC (.int 0)) gNilA))) (gC (.int 96))) (gC (.int 8))) (gC (.int 3)))) (gSet 3 (gC (.int 6))) gNext)
    (gSeq (gSet 4 (gLst gNilA))
    (gSeq (gFor (aName 5) (gRng1 (gConsA (gVar 3) gNilA)) (gSeq (gSet 6 (gAdd (gC (.int 7)) (gMul (gC (.int 4)) (gVar 5))))
    (gSeq (gSet 7 (gComp [10] (aName 10) gYes (gFn 2 f__law_number (gConsA (gFn 2 f__law_cell_at (gConsA (gVar 0) (gConsA (gAdd (gVar 6) (gVar 10)) gNilA))) (gConsA (gVar 2) gNilA))) (gRng1 (gConsA (gVar 1) gNilA))))
    (gSeq (gSet 8 (gFn 2 f__law_cell_at (gConsA (gVar 0) (gConsA (gAdd (gVar 6) (gC (.int 3))) gNilA))))
    (gSeq (gSet 9 (gIx (gLst (gConsA (gC (.str "most")) (gConsA (gC (.str "least")) gNilA))) (gMod (gVar 8) (gC (.int 2)))))
    (gSeq (gIfS (gBl (gGt (gVar 2) (gC (.int 1)))) (gSet 9 (gIx (gLst (gConsA (gC (.str "most")) (gConsA (gC (.str "most")) (gConsA (gC (.str "most")) (gConsA (gC (.str "least")) gNilA))))) (gMod (gVar 8) (gC (.int 4))))) gNext)
    (gAppend 4 (gTup (gConsA (gB bTup (gConsA (gVar 7) gNilA)) (gConsA (gVar 9) (gConsA (gFn 2 f__law_bound (gConsA (gFdiv (gVar 8) (gC (.int 4))) (gConsA (gVar 2) gNilA))) gNilA)))))))))))
    (gRet (gVar 4))))))))
def f__law_rows : List PyData → O PyData := fnG 11 g__law_rows
theorem ok__law_rows (T : Top K mg xc cls) : OkAt P w K mg base cls xc "_law_rows" ["_law_script"] 1 3 f__law_rows :=
  okAt_of T.d__law_rows sc__law_rows g__law_rows [4] fun f cdv A outer s H E F0 hr => ⟨_, (pss_cons (ps_set (i := 1) sc__law_rows.nd rfl (by first | exact Or.inl rfl | exact Or.inr rfl) (pe_ix ix_seq (pe_lst (pa_cons pe_int (pa_cons pe_int (pa_cons pe_int (pa_cons pe_int pa_nil))))) (pe_op op_mod (pe_callO (ok__law_cell_at T) hr (by decide) (by rfl) (takes_of rfl rfl rfl rfl) (pa_cons (pv 0) (pa_cons pe_int pa_nil))) pe_int) (fun _ _ => rfl)))
      (pss_cons (ps_set (i := 2) sc__law_rows.nd rfl (by first | exact Or.inl rfl | exact Or.inr rfl) (pe_callO (ok__law_kind T) hr (by decide) (by rfl) (takes_of rfl rfl rfl rfl) (pa_cons (pv 0) pa_nil)))
      (pss_cons (ps_set (i := 3) sc__law_rows.nd rfl (by first | exact Or.inl rfl | exact Or.inr rfl) (pe_op op_mod (pe_op op_fdivW (pe_callO (ok__law_cell_at T) hr (by decide) (by rfl) (takes_of rfl rfl rfl rfl) (pa_cons (pv 0) (pa_cons pe_int pa_nil))) pe_int) pe_int))
      (pss_cons (ps_if (pt_cmpR (op_eqAll hr.units) (pe_op op_mod (pe_op op_fdivW (pe_callO (ok__law_cell_at T) hr (by decide) (by rfl) (takes_of rfl rfl rfl rfl) (pa_cons (pv 0) (pa_cons pe_int pa_nil))) pe_int) pe_int) pe_int (nomark _)) (pss_one (ps_set (i := 3) sc__law_rows.nd rfl (by first | exact Or.inl rfl | exact Or.inr rfl) pe_int)) pss_nil)
      (pss_cons (ps_set (i := 4) sc__law_rows.nd rfl (by first | exact Or.inl rfl | exact Or.inr rfl) (pe_lst pa_nil))
      (pss_cons (ps_for (passes_of rfl) rfl (pi_range1 (by rfl) T.n_range (pa_cons (pv 3) pa_nil)) (pg_name (i := 5) sc__law_rows.nd rfl (by first | exact Or.inl rfl | exact Or.inr rfl)) (pss_cons (ps_set (i := 6) sc__law_rows.nd rfl (by first | exact Or.inl rfl | exact Or.inr rfl) (pe_op op_addAll pe_int (pe_op op_mulAll pe_int (pv 5))))
      (pss_cons (ps_setLc (i := 7) (own := [("_law_k", 10)]) rfl sc__law_rows.nd rfl rfl (sw_true rfl rfl rfl (by decide +kernel)) (pi_range1 (by rfl) T.n_range (pa_cons (pv 1) pa_nil)) (blkOk_by (N := ["_law_script", "_law_many", "_law_kind_here", "_law_size", "_law_rows_here", "_law_at", "_law_first", "_law_numbers", "_law_last", "_law_word", "_law_k"]) (sc := defScope st__law_rows) (own := [("_law_k", 10)]) (by decide +kernel)) (fun _ _ _ _ _ => (pg_name (i := 10) sc__law_rows.nd rfl (by first | exact Or.inl rfl | exact Or.inr rfl))) (fun _ _ _ _ _ => pts_nil) (fun _ _ _ _ _ => (pe_callO (ok__law_number T) hr (by decide) (by rfl) takes0 (pa_cons (pe_callO (ok__law_cell_at T) hr (by decide) (by rfl) takes0 (pa_cons (pv 0) (pa_cons (pe_op op_addAll (pv 6) (pv 10)) pa_nil))) (pa_cons (pv 2) pa_nil)))))
      (pss_cons (ps_set (i := 8) sc__law_rows.nd rfl (by first | exact Or.inl rfl | exact Or.inr rfl) (pe_callO (ok__law_cell_at T) hr (by decide) (by rfl) (takes_of rfl rfl rfl rfl) (pa_cons (pv 0) (pa_cons (pe_op op_addAll (pv 6) pe_int) pa_nil))))
      (pss_cons (ps_set (i := 9) sc__law_rows.nd rfl (by first | exact Or.inl rfl | exact Or.inr rfl) (pe_ix ix_seq (pe_lst (pa_cons pe_str (pa_cons pe_str pa_nil))) (pe_op op_mod (pv 8) pe_int) (fun _ _ => rfl)))
      (pss_cons (ps_if (pt_cmpR op_gt (pv 2) pe_int (nomark _)) (pss_one (ps_set (i := 9) sc__law_rows.nd rfl (by first | exact Or.inl rfl | exact Or.inr rfl) (pe_ix ix_seq (pe_lst (pa_cons pe_str (pa_cons pe_str (pa_cons pe_str (pa_cons pe_str pa_nil))))) (pe_op op_mod (pv 8) pe_int) (fun _ _ => rfl)))) pss_nil)
      (pss_one (ps_expr (pe_bm PySem.F.plainAttrs_list PySem.F.slot_list_append PySem.F.type_list_append mt_append (pv 4) (pa_cons (pe_tup (pa_cons (pe_callTy call_tuple_of (by rfl) T.n_tuple bt_tuple (pa_cons (pv 7) pa_nil)) (pa_cons (pv 9) (pa_cons (pe_callO (ok__law_bound T) hr (by decide) (by rfl) (takes_of rfl rfl rfl rfl) (pa_cons (pe_op op_fdivW (pv 8) pe_int) (pa_cons (pv 2) pa_nil))) pa_nil)))) pa_nil))))))))))
      (pss_one (ps_ret (pv 4))))))))),
    (fs_seq (own1 := []) (fs_set (fe_op opf_ix (fe_lst (fa_cons (fe_int 1) (fa_cons (fe_int 2) (fa_cons (fe_int 3) (fa_cons (fe_int 3) fa_nil))))) (fe_op opf_mod (fe_call rfl (fa_cons (fe_var rfl) (fa_cons (fe_int 0) fa_nil))) (fe_int 4))) rfl)
      (fs_seq (own1 := []) (fs_set (fe_call rfl (fa_cons (fe_var rfl) fa_nil)) rfl)
      (fs_seq (own1 := []) (fs_set (fe_op opf_mod (fe_op opf_fdiv (fe_call rfl (fa_cons (fe_var rfl) (fa_cons (fe_int 0) fa_nil))) (fe_int 16)) (fe_int 6)) rfl)
      (fs_seq (own1 := []) (fs_if (own' := []) (ft_test (fe_op opf_eq (fe_op opf_mod (fe_op opf_fdiv (fe_call rfl (fa_cons (fe_var rfl) (fa_cons (fe_int 0) fa_nil))) (fe_int 96)) (fe_int 8)) (fe_int 3))) (fs_set (fe_int 6) rfl) fs_next)
      (fs_seq (own1 := [4]) (fs_setO (own' := [4]) (fo_lst fa_nil) gLst_list rfl)
      (fs_seq (own1 := [4]) (fs_for (fi_range1 (fa_cons (fe_var rfl) fa_nil)) (fg_name rfl) aName_ex (fs_seq (own1 := [4]) (fs_set (fe_op opf_add (fe_int 7) (fe_op opf_mul (fe_int 4) (fe_var rfl))) rfl)
      (fs_seq (own1 := [4]) (fs_set (fe_comp (vs := [10]) (fi_range1 (fa_cons (fe_var rfl) fa_nil)) (fc_name rfl rfl) aName_ex ft_yes (fe_call rfl (fa_cons (fe_call rfl (fa_cons (fe_var rfl) (fa_cons (fe_op opf_add (fe_var rfl) (fe_var rfl)) fa_nil))) (fa_cons (fe_var rfl) fa_nil)))) rfl)
      (fs_seq (own1 := [4]) (fs_set (fe_call rfl (fa_cons (fe_var rfl) (fa_cons (fe_op opf_add (fe_var rfl) (fe_int 3)) fa_nil))) rfl)
      (fs_seq (own1 := [4]) (fs_set (fe_op opf_ix (fe_lst (fa_cons (fe_str "most") (fa_cons (fe_str "least") fa_nil))) (fe_op opf_mod (fe_var rfl) (fe_int 2))) rfl)
      (fs_seq (own1 := [4]) (fs_if (own' := [4]) (ft_test (fe_op opf_gt (fe_var rfl) (fe_int 1))) (fs_set (fe_op opf_ix (fe_lst (fa_cons (fe_str "most") (fa_cons (fe_str "most") (fa_cons (fe_str "most") (fa_cons (fe_str "least") fa_nil))))) (fe_op opf_mod (fe_var rfl) (fe_int 4))) rfl) fs_next)
      (fs_append (fe_tup (fa_cons (fe_callB cf_tup (fa_cons (fe_var rfl) fa_nil)) (fa_cons (fe_var rfl) (fa_cons (fe_call rfl (fa_cons (fe_op opf_fdiv (fe_var rfl) (fe_int 4)) (fa_cons (fe_var rfl) fa_nil))) fa_nil)))) rfl)))))))
      (fs_ret (fe_var rfl))))))))⟩
/-! ### _law_sum -/
abbrev st__law_sum : Stmt := topS 41
theorem sc__law_sum : FnScope ["_law_numbers", "_law_point", "_law_whole_here", "_law_k"] ["_law_numbers", "_law_point"] (defScope st__law_sum) := ⟨rfl, rfl, rfl, by decide +kernel, rfl, by decide +kernel, by decide +kernel⟩
def g__law_sum : Rho → R :=
    (gSeq (gSet 2 (gC (.int 0)))
    (gSeq (gFor (aName 3) (gRng1 (gConsA (gB bLen (gConsA (gVar 1) gNilA)) gNilA)) (gSet 2 (gAdd (gVar 2) (gMul (gIx (gVar 0) (gVar 3)) (gIx (gVar 1) (gVar 3))))))
    (gRet (gVar 2))))
def f__law_sum : List PyData → O PyData := fnG 4 g__law_sum
theorem ok__law_sum (T : Top K mg xc cls) : OkAt P w K mg base cls xc "_law_sum" ["_law_numbers", "_law_point"] 2 1 f__law_sum :=
  okAt_of T.d__law_sum sc__law_sum g__law_sum [] fun f cdv A outer s H E F0 hr => ⟨_, (pss_cons (ps_set (i := 2) sc__law_sum.nd rfl (by first | exact Or.inl rfl | exact Or.inr rfl) pe_int)
      (pss_cons (ps_for (passes_of rfl) rfl (pi_range1 (by rfl) T.n_range (pa_cons (pe_callB call_len (by rfl) T.n_len bt_len (pa_cons (pv 1) pa_nil)) pa_nil)) (pg_name (i := 3) sc__law_sum.nd rfl (by first | exact Or.inl rfl | exact Or.inr rfl)) (pss_one (ps_set (i := 2) sc__law_sum.nd rfl (by first | exact Or.inl rfl | exact Or.inr rfl) (pe_op op_addAll (pv 2) (pe_op op_mulAll (pe_ix ix_seq (pv 0) (pv 3) (fun _ _ => rfl)) (pe_ix ix_seq (pv 1) (pv 3) (fun _ _ => rfl)))))))
      (pss_one (ps_ret (pv 2))))),
    (fs_seq (own1 := []) (fs_set (fe_int 0) rfl)
      (fs_seq (own1 := []) (fs_for (fi_range1 (fa_cons (fe_callB cf_len (fa_cons (fe_var rfl) fa_nil)) fa_nil)) (fg_name rfl) aName_ex (fs_set (fe_op opf_add (fe_var rfl) (fe_op opf_mul (fe_op opf_ix (fe_var rfl) (fe_var rfl)) (fe_op opf_ix (fe_var rfl) (fe_var rfl)))) rfl))
      (fs_ret (fe_var rfl))))⟩
/-! ### _law_meets -/
abbrev st__law_meets : Stmt := topS 42
theorem sc__law_meets : FnScope ["_law_tops_here", "_law_rows_here", "_law_point", "_law_k", "_law_row", "_law_found"] ["_law_tops_here", "_law_rows_here", "_law_point"] (defScope st__law_meets) := ⟨rfl, rfl, rfl, by decide +kernel, rfl, by decide +kernel, by decide +kernel⟩
def g__law_meets : Rho → R :=
    (gSeq (gFor (aName 3) (gRng1 (gConsA (gB bLen (gConsA (gVar 0) gNilA)) gNilA)) (gIfS (gOrT (gBl (gLt (gIx (gVar 2) (gVar 3)) (gC (.int 0)))) (gBl (gGt (gIx (gVar 2) (gVar 3)) (gIx (gVar 0) (gVar 3))))) (gRet (gC (.bool false))) gNext))
    (gSeq (gFor (aName 4) (gItA (gVar 1)) (gSeq (gSet 5 (gFn 2 f__law_sum (gConsA (gIx (gVar 4) (gC (.int 0))) (gConsA (gVar 2) gNilA))))
    (gIfS (gOrT (gAndT (gBl (gEq (gIx (gVar 4) (gC (.int 1))) (gC (.str "most")))) (gBl (gGt (gVar 5) (gIx (gVar 4) (gC (.int 2)))))) (gAndT (gBl (gEq (gIx (gVar 4) (gC (.int 1))) (gC (.str "least")))) (gBl (gLt (gVar 5) (gIx (gVar 4) (gC (.int 2))))))) (gRet (gC (.bool false))) gNext)))
    (gRet (gC (.bool true)))))
def f__law_meets : List PyData → O PyData := fnG 6 g__law_meets
theorem ok__law_meets (T : Top K mg xc cls) : OkAt P w K mg base cls xc "_law_meets" ["_law_tops_here", "_law_rows_here", "_law_point"] 3 2 f__law_meets :=
  okAt_of T.d__law_meets sc__law_meets g__law_meets [] fun f cdv A outer s H E F0 hr => ⟨_, (pss_cons (ps_for (passes_of rfl) rfl (pi_range1 (by rfl) T.n_range (pa_cons (pe_callB call_len (by rfl) T.n_len bt_len (pa_cons (pv 0) pa_nil)) pa_nil)) (pg_name (i := 3) sc__law_meets.nd rfl (by first | exact Or.inl rfl | exact Or.inr rfl)) (pss_one (ps_if (PW.pt (pw_or (pt_cmpR op_lt (pe_ix ix_seq (pv 2) (pv 3) (fun _ _ => rfl)) pe_int (nomark _)) (pw_or1 (pt_cmpR op_gt (pe_ix ix_seq (pv 2) (pv 3) (fun _ _ => rfl)) (pe_ix ix_seq (pv 0) (pv 3) (fun _ _ => rfl)) (nomark _))))) (pss_one (ps_ret pe_bl)) pss_nil)))
      (pss_cons (ps_for (passes_of rfl) rfl (pi_any (pv 1)) (pg_name (i := 4) sc__law_meets.nd rfl (by first | exact Or.inl rfl | exact Or.inr rfl)) (pss_cons (ps_set (i := 5) sc__law_meets.nd rfl (by first | exact Or.inl rfl | exact Or.inr rfl) (pe_callO (ok__law_sum T) hr (by decide) (by rfl) (takes_of rfl rfl rfl rfl) (pa_cons (pe_ix ix_seq (pv 4) pe_int (fun _ _ => rfl)) (pa_cons (pv 2) pa_nil))))
      (pss_one (ps_if (PW.pt (pw_or (PW.pt (pw_and (pt_cmpR (op_eqAll hr.units) (pe_ix ix_seq (pv 4) pe_int (fun _ _ => rfl)) pe_str (nomark _)) (pw_and1 (pt_cmpR op_gt (pv 5) (pe_ix ix_seq (pv 4) pe_int (fun _ _ => rfl)) (nomark _))))) (pw_or1 (PW.pt (pw_and (pt_cmpR (op_eqAll hr.units) (pe_ix ix_seq (pv 4) pe_int (fun _ _ => rfl)) pe_str (nomark _)) (pw_and1 (pt_cmpR op_lt (pv 5) (pe_ix ix_seq (pv 4) pe_int (fun _ _ => rfl)) (nomark _)))))))) (pss_one (ps_ret pe_bl)) pss_nil))))
      (pss_one (ps_ret pe_bl)))),
    (fs_seq (own1 := []) (fs_for (fi_range1 (fa_cons (fe_callB cf_len (fa_cons (fe_var rfl) fa_nil)) fa_nil)) (fg_name rfl) aName_ex (fs_if (own' := []) (ft_or (ft_test (fe_op opf_lt (fe_op opf_ix (fe_var rfl) (fe_var rfl)) (fe_int 0))) (ft_test (fe_op opf_gt (fe_op opf_ix (fe_var rfl) (fe_var rfl)) (fe_op opf_ix (fe_var rfl) (fe_var rfl))))) (fs_ret (fe_bool false)) fs_next))
      (fs_seq (own1 := []) (fs_for (fi_any (fe_var rfl)) (fg_name rfl) aName_ex (fs_seq (own1 := []) (fs_set (fe_call rfl (fa_cons (fe_op opf_ix (fe_var rfl) (fe_int 0)) (fa_cons (fe_var rfl) fa_nil))) rfl)
      (fs_if (own' := []) (ft_or (ft_and (ft_test (fe_op opf_eq (fe_op opf_ix (fe_var rfl) (fe_int 1)) (fe_str "most"))) (ft_test (fe_op opf_gt (fe_var rfl) (fe_op opf_ix (fe_var rfl) (fe_int 2))))) (ft_and (ft_test (fe_op opf_eq (fe_op opf_ix (fe_var rfl) (fe_int 1)) (fe_str "least"))) (ft_test (fe_op opf_lt (fe_var rfl) (fe_op opf_ix (fe_var rfl) (fe_int 2)))))) (fs_ret (fe_bool false)) fs_next)))
      (fs_ret (fe_bool true))))⟩
/-! ### _law_no_point -/
abbrev st__law_no_point : Stmt := topS 44
theorem sc__law_no_point : FnScope ["_law_point", "_law_cell", "_law_at"] ["_law_point", "_law_cell"] (defScope st__law_no_point) := ⟨rfl, rfl, rfl, by decide +kernel, rfl, by decide +kernel, by decide +kernel⟩
def g__law_no_point : Rho → R :=
    (gSeq (gSet 2 (gMod (gFdiv (gVar 1) (gC (.int 8))) (gB bLen (gConsA (gVar 0) gNilA))))
    (gSeq (gIfS (gBl (gEq (gMod (gVar 1) (gC (.int 8))) (gC (.int 0)))) (gRet (gB bTup (gConsA (gVar 0) gNilA))) gNext)
    (gSeq (gIfS (gBl (gEq (gMod (gVar 1) (gC (.int 8))) (gC (.int 1)))) (gRet (gSl (gVar 0) gNoP (gPart (gNeg (gC (.int 1)))))) gNext)
    (gSeq (gIfS (gBl (gEq (gMod (gVar 1) (gC (.int 8))) (gC (.int 2)))) (gRet (gAdd (gVar 0) (gLst (gConsA (gC (.int 0)) gNilA)))) gNext)
    (gRet (gAdd (gAdd (gSl (gVar 0) gNoP (gPart (gVar 2))) (gLst (gConsA (gIx (gLst (gConsA (gC (.bool true)) (gConsA (gC (.str "0")) (gConsA (gC .none) (gConsA (gLst (gConsA (gC (.int 0)) gNilA)) (gConsA (gC (.bool false)) gNilA)))))) (gSub' (gMod (gVar 1) (gC (.int 8))) (gC (.int 3)))) gNilA))) (gSl (gVar 0) (gPart (gAdd (gVar 2) (gC (.int 1)))) gNoP)))))))
def f__law_no_point : List PyData → O PyData := fnG 3 g__law_no_point
theorem ok__law_no_point (T : Top K mg xc cls) : OkAt P w K mg base cls xc "_law_no_point" ["_law_point", "_law_cell"] 2 1 f__law_no_point :=
  okAt_of T.d__law_no_point sc__law_no_point g__law_no_point [] fun f cdv A outer s H E F0 hr => ⟨_, (pss_cons (ps_set (i := 2) sc__law_no_point.nd rfl (by first | exact Or.inl rfl | exact Or.inr rfl) (pe_op op_mod (pe_op op_fdivW (pv 1) pe_int) (pe_callB call_len (by rfl) T.n_len bt_len (pa_cons (pv 0) pa_nil))))
      (pss_cons (ps_if (pt_cmpR (op_eqAll hr.units) (pe_op op_mod (pv 1) pe_int) pe_int (nomark _)) (pss_one (ps_ret (pe_callTy call_tuple_of (by rfl) T.n_tuple bt_tuple (pa_cons (pv 0) pa_nil)))) pss_nil)
      (pss_cons (ps_if (pt_cmpR (op_eqAll hr.units) (pe_op op_mod (pv 1) pe_int) pe_int (nomark _)) (pss_one (ps_ret (pe_slice sl_all (pv 0) po_none (po_some (pe_un un_neg pe_int))))) pss_nil)
      (pss_cons (ps_if (pt_cmpR (op_eqAll hr.units) (pe_op op_mod (pv 1) pe_int) pe_int (nomark _)) (pss_one (ps_ret (pe_op op_addAll (pv 0) (pe_lst (pa_cons pe_int pa_nil))))) pss_nil)
      (pss_one (ps_ret (pe_op op_addAll (pe_op op_addAll (pe_slice sl_all (pv 0) po_none (po_some (pv 2))) (pe_lst (pa_cons (pe_ix ix_seq (pe_lst (pa_cons pe_bl (pa_cons pe_str (pa_cons pe_non (pa_cons (pe_lst (pa_cons pe_int pa_nil)) (pa_cons pe_bl pa_nil)))))) (pe_op op_sub (pe_op op_mod (pv 1) pe_int) pe_int) (fun _ _ => rfl)) pa_nil))) (pe_slice sl_all (pv 0) (po_some (pe_op op_addAll (pv 2) pe_int)) po_none)))))))),
    (fs_seq (own1 := []) (fs_set (fe_op opf_mod (fe_op opf_fdiv (fe_var rfl) (fe_int 8)) (fe_callB cf_len (fa_cons (fe_var rfl) fa_nil))) rfl)
      (fs_seq (own1 := []) (fs_if (own' := []) (ft_test (fe_op opf_eq (fe_op opf_mod (fe_var rfl) (fe_int 8)) (fe_int 0))) (fs_ret (fe_callB cf_tup (fa_cons (fe_var rfl) fa_nil))) fs_next)
      (fs_seq (own1 := []) (fs_if (own' := []) (ft_test (fe_op opf_eq (fe_op opf_mod (fe_var rfl) (fe_int 8)) (fe_int 1))) (fs_ret (fe_slice (fe_var rfl) fp_none (fp_some (fe_un unf_neg (fe_int 1))))) fs_next)
      (fs_seq (own1 := []) (fs_if (own' := []) (ft_test (fe_op opf_eq (fe_op opf_mod (fe_var rfl) (fe_int 8)) (fe_int 2))) (fs_ret (fe_op opf_add (fe_var rfl) (fe_lst (fa_cons (fe_int 0) fa_nil)))) fs_next)
      (fs_ret (fe_op opf_add (fe_op opf_add (fe_slice (fe_var rfl) fp_none (fp_some (fe_var rfl))) (fe_lst (fa_cons (fe_op opf_ix (fe_lst (fa_cons (fe_bool true) (fa_cons (fe_str "0") (fa_cons fe_none (fa_cons (fe_lst (fa_cons (fe_int 0) fa_nil)) (fa_cons (fe_bool false) fa_nil)))))) (fe_op opf_sub (fe_op opf_mod (fe_var rfl) (fe_int 8)) (fe_int 3))) fa_nil))) (fe_slice (fe_var rfl) (fp_some (fe_op opf_add (fe_var rfl) (fe_int 1))) fp_none)))))))⟩
end
end K03

set_option Elab.async false
set_option linter.all false
set_option maxRecDepth 100000
set_option profiler true
set_option profiler.threshold 500
namespace K03
open PySem PySem.Spec L2 Fn
def cell (ns : List Int) (k : Int) : Int := ((if ns = [] then 0 else ns.getD (k % ns.length).toNat 0) + 17 * k) * 48271 % 1000003
theorem cell_ge (ns : List Int) (k : Int) : 0 ≤ cell ns k := Int.emod_nonneg _ (by decide)
theorem cell_lt (ns : List Int) (k : Int) : cell ns k < 1000003 := Int.emod_lt_of_pos _ (by decide)
abbrev scr (ns : List Int) : PyData := D.ro (ns.map PyData.int)
theorem cell_ok (ns : List Int) (k : Int) (hk : 0 ≤ k) : f__law_cell_at [scr ns, .int k] = .ok (.int (cell ns k)) := by
  have e : rho0 3 [scr ns, PyData.int k] = [some (scr ns), some (.int k), none] := rfl
  unfold f__law_cell_at fnG
  rw [e]
  unfold g__law_cell_at cell
  by_cases h : ns = []
  · subst h
    simp [mulOk_l, mulOk_r]
  · have hl : (0 : Int) < ns.length := by
      have := List.length_pos_iff.mpr h
      omega
    have h1 : 0 ≤ k % (ns.length : Int) := Int.emod_nonneg _ (by omega)
    have h2 : k % (ns.length : Int) < ns.length := Int.emod_lt_of_pos _ hl
    have h4 : dIx (scr ns) (.int (k % ns.length)) = .ok (.int (ns.getD (k % ns.length).toNat 0)) := dIx_r _ _ (by rw [atI_map, atI_getD 0 h1 h2]; rfl)
    have hl' : 0 < ns.length := List.length_pos_iff.mpr h
    simp [mulOk_l, mulOk_r, h4, hl', h, -List.getD_eq_getElem?_getD]
def num (c kind : Int) : Int := if kind = 0 then c % 7 - 3 else if kind = 1 then c % 101 - 50 else if c / 11 % 6 = 5 then -2 - c % 11 else 2 + c % 11
theorem num_ok (c kind : Int) : f__law_number [.int c, .int kind] = .ok (.int (num c kind)) := by
  have e : rho0 2 [PyData.int c, PyData.int kind] = [some (.int c), some (.int kind)] := rfl
  unfold f__law_number fnG
  rw [e]
  unfold g__law_number num
  by_cases h0 : kind = 0
  · simp [h0]
  · by_cases h1 : kind = 1
    · simp [h1]
    · have l11 : Nat.log2 11 < 9000 := by decide
      by_cases h2 : c / 11 % 6 = 5
      · simp [h0, h1, h2, l11]
      · simp [h0, h1, h2, l11]
theorem num_bd (c kind : Int) (hc : 0 ≤ c) : -50 ≤ num c kind ∧ num c kind ≤ 50 := by
  unfold num
  split
  · omega
  · split
    · omega
    · split <;> omega

def many (ns : List Int) : Nat := if cell ns 0 % 4 = 0 then 1 else if cell ns 0 % 4 = 1 then 2 else 3
theorem many_bd (ns : List Int) : 1 ≤ many ns ∧ many ns ≤ 3 := by
  unfold many
  split
  · omega
  · split <;> omega
theorem many_ok (ns : List Int) : dIx (.list [.int 1, .int 2, .int 3, .int 3]) (.int (cell ns 0 % 4)) = .ok (.int (many ns : Nat)) := by
  unfold many
  have h : cell ns 0 % 4 = 0 ∨ cell ns 0 % 4 = 1 ∨ cell ns 0 % 4 = 2 ∨ cell ns 0 % 4 = 3 := by omega
  rcases h with h | h | h | h <;> rw [h] <;> rfl
def bd (lo hi : Int) (t : Int) : Prop := lo ≤ t ∧ t ≤ hi
theorem tops_ok (ns : List Int) : ∃ ts : List Int, f__law_tops [scr ns] = .ok (.list (ts.map PyData.int)) ∧ ts.length = many ns ∧ ∀ t ∈ ts, bd 0 20 t := by
  have e : rho0 5 [scr ns] = [some (scr ns), none, none, none, none] := rfl
  unfold f__law_tops fnG
  rw [e]
  unfold g__law_tops
  obtain ⟨m1, m3⟩ := many_bd ns
  have hm := many_ok ns
  have c0 := cell_ok ns 0 (by decide)
  have c1 := cell_ok ns 1 (by decide)
  generalize hmm : many ns = m at *
  have hc0 := cell_ge ns 0
  have hc1 := cell_ge ns 1
  have l1 : Nat.log2 4 < 9000 := by decide
  have l2 : Nat.log2 16 < 9000 := by decide
  have l3 : Nat.log2 768 < 9000 := by decide
  obtain ⟨ts0, t1, t2, t3⟩ := comp_ints (vs := [3]) (i := 3) (E := (gMod (gFdiv (gFn 2 f__law_cell_at (gConsA (gVar 0) (gConsA (gAdd (gC (.int 1)) (gVar 3)) gNilA))) (gC (.int 4))) (gC (.int 5)))) (gi := (gRng1 (gConsA (gVar 1) gNilA)))
    (ρ := [some (scr ns), some (.int m), none, none, none]) (ds := rangeD 0 m) (bd 0 20) (by simp [rng1_nat (show m ≤ 1000 by omega)]) (by rw [rangeD_length]; exact lim_ge (by omega)) (fun d hd => by
      obtain ⟨i, hi, rfl⟩ := rangeD_mem hd
      refine ⟨cell ns (1 + i) / 4 % 5, ?_, ?_⟩
      · simp [cell_ok ns (1 + i) (by omega), l1]
      · unfold bd; omega)
  rw [rangeD_length] at t2
  have hloop : ∀ ts : List Int, ts.length = m → (∀ t ∈ ts, bd 0 20 t) → ∃ (ts1 : List Int) (x : Option PyData), gFor (aName 3) (gRng1 (gConsA (gB bMin (gConsA (gVar 1) (gConsA (gC (.int 2)) gNilA))) gNilA)) (gSetIx 2 (gVar 3) (gMod (gFdiv (gFn 2 f__law_cell_at (gConsA (gVar 0) (gConsA (gAdd (gC (.int 1)) (gVar 3)) gNilA))) (gC (.int 16))) (gC (.int 21))))
      [some (scr ns), some (.int m), some (.list (ts.map PyData.int)), none, some (.int (cell ns 1))] = .nx [some (scr ns), some (.int m), some (.list (ts1.map PyData.int)), x, some (.int (cell ns 1))] ∧ ts1.length = m ∧ ∀ t ∈ ts1, bd 0 20 t := by
    intro ts h1 h2
    obtain ⟨k, hk1, hk2⟩ : ∃ k : Nat, (if (2 : Int) < m then (2 : Int) else m) = k ∧ k ≤ m := by
      split
      · exact ⟨2, rfl, by omega⟩
      · exact ⟨m, rfl, by omega⟩
    obtain ⟨ρ', h3, ts1, x, rfl, h4, h5⟩ := for_inv (f := aName 3) (body := (gSetIx 2 (gVar 3) (gMod (gFdiv (gFn 2 f__law_cell_at (gConsA (gVar 0) (gConsA (gAdd (gC (.int 1)) (gVar 3)) gNilA))) (gC (.int 16))) (gC (.int 21))))) (ds := rangeD 0 k)
      (ρ := [some (scr ns), some (.int m), some (.list (ts.map PyData.int)), none, some (.int (cell ns 1))])
      (fun i ρ => ∃ (ts : List Int) (x : Option PyData), ρ = [some (scr ns), some (.int m), some (.list (ts.map PyData.int)), x, some (.int (cell ns 1))] ∧ ts.length = m ∧ ∀ t ∈ ts, bd 0 20 t) ⟨ts, none, rfl, h1, h2⟩ (fun i d ρ hd hi => by
        obtain ⟨ts, x, rfl, h1, h2⟩ := hi
        obtain ⟨rfl, hi⟩ := rangeD_at hd
        refine ⟨_, _, rfl, ?_, ts.set i (cell ns (1 + i) / 16 % 21), some (.int i), rfl, by simp [h1], fun t ht => ?_⟩
        · simp [cell_ok ns (1 + i) (by omega), l2, ixN_of (n := m) (i := (i : Int)) (by omega) (by omega), h1]
        · rcases List.mem_or_eq_of_mem_set ht with q | q
          · exact h2 t q
          · subst q; unfold bd; omega)
    refine ⟨ts1, x, ?_, h4, h5⟩
    rw [gFor_ap]
    simp [hk1, rng1_nat (show k ≤ 1000 by omega)]
    exact h3
  have hset : ∀ (ts : List Int) (x : Option PyData), ts.length = m → (∀ t ∈ ts, bd 0 20 t) → ∃ ts1 : List Int, gIfS (gBl (gEq (gMod (gVar 4) (gC (.int 4))) (gC (.int 3)))) (gSetIx 2 (gMod (gFdiv (gFn 2 f__law_cell_at (gConsA (gVar 0) (gConsA (gC (.int 0)) gNilA))) (gC (.int 768))) (gVar 1)) (gMod (gFdiv (gVar 4) (gC (.int 4))) (gC (.int 21)))) gNext
      [some (scr ns), some (.int m), some (.list (ts.map PyData.int)), x, some (.int (cell ns 1))] = .nx [some (scr ns), some (.int m), some (.list (ts1.map PyData.int)), x, some (.int (cell ns 1))] ∧ ts1.length = m ∧ ∀ t ∈ ts1, bd 0 20 t := by
    intro ts x h1 h2
    by_cases h : cell ns 1 % 4 = 3
    · have q1 : 0 ≤ cell ns 0 / 768 % (m : Int) := Int.emod_nonneg _ (by omega)
      have q2 : cell ns 0 / 768 % (m : Int) < m := Int.emod_lt_of_pos _ (by omega)
      refine ⟨ts.set (cell ns 0 / 768 % (m : Int)).toNat (cell ns 1 / 4 % 21), ?_, by simp [h1], fun t ht => ?_⟩
      · simp [h, c0, l1, l3, h1, ixN_of q1 q2, show 0 < m by omega]
      · rcases List.mem_or_eq_of_mem_set ht with q | q
        · exact h2 t q
        · subst q; unfold bd; omega
    · exact ⟨ts, by simp [h], h1, h2⟩
  by_cases h9 : cell ns 1 % 16 = 9
  · obtain ⟨ts1, x, h3, h4, h5⟩ := hloop ts0 t2 t3
    obtain ⟨ts2, h6, h7, h8⟩ := hset ts1 x h4 h5
    have hif : gIfS (gBl (gEq (gMod (gVar 4) (gC (.int 16))) (gC (.int 9)))) (gFor (aName 3) (gRng1 (gConsA (gB bMin (gConsA (gVar 1) (gConsA (gC (.int 2)) gNilA))) gNilA)) (gSetIx 2 (gVar 3) (gMod (gFdiv (gFn 2 f__law_cell_at (gConsA (gVar 0) (gConsA (gAdd (gC (.int 1)) (gVar 3)) gNilA))) (gC (.int 16))) (gC (.int 21))))) gNext
      [some (scr ns), some (.int m), some (.list (ts0.map PyData.int)), none, some (.int (cell ns 1))] = .nx [some (scr ns), some (.int m), some (.list (ts1.map PyData.int)), x, some (.int (cell ns 1))] := by simp [h9, h3]
    exact ⟨ts2, by simp [c0, c1, hm, t1, hif, h6, -gIfS_ap], h7, h8⟩
  · obtain ⟨ts2, h6, h7, h8⟩ := hset ts0 none t2 t3
    have hif : gIfS (gBl (gEq (gMod (gVar 4) (gC (.int 16))) (gC (.int 9)))) (gFor (aName 3) (gRng1 (gConsA (gB bMin (gConsA (gVar 1) (gConsA (gC (.int 2)) gNilA))) gNilA)) (gSetIx 2 (gVar 3) (gMod (gFdiv (gFn 2 f__law_cell_at (gConsA (gVar 0) (gConsA (gAdd (gC (.int 1)) (gVar 3)) gNilA))) (gC (.int 16))) (gC (.int 21))))) gNext
      [some (scr ns), some (.int m), some (.list (ts0.map PyData.int)), none, some (.int (cell ns 1))] = .nx [some (scr ns), some (.int m), some (.list (ts0.map PyData.int)), none, some (.int (cell ns 1))] := by simp [h9]
    exact ⟨ts2, by simp [c0, c1, hm, t1, hif, h6, -gIfS_ap], h7, h8⟩
end K03

set_option Elab.async false
set_option linter.all false
set_option maxRecDepth 100000
namespace K03
open PySem PySem.Spec L2 Fn
/-! ### the program's own looks -/
def isInt : PyData → Bool
  | .int _ => true
  | _ => false
/-- a thing of a known kind, no instance -/
def plain0 : PyData → Bool
  | .dict _ => false
  | _ => true
theorem is_whole_ok {d : PyData} (h : plain0 d = true) : f_is_whole [d] = .ok (.bool (isInt d)) := by
  have e : rho0 1 [d] = [some d] := rfl
  unfold f_is_whole fnG
  rw [e]
  unfold g_is_whole
  cases d with
  | dict _ => cases h
  | _ => simp [isInt]
def inB (lo hi : Int) : PyData → Bool
  | .int i => decide (lo ≤ i) && decide (i ≤ hi)
  | _ => false
theorem is_within_ok {d : PyData} (lo hi : Int) (h : plain0 d = true) : f_is_within [d, .int lo, .int hi] = .ok (.bool (inB lo hi d)) := by
  have e : rho0 3 [d, .int lo, .int hi] = [some d, some (.int lo), some (.int hi)] := rfl
  unfold f_is_within fnG
  rw [e]
  unfold g_is_within
  have := is_whole_ok h
  cases d with
  | dict _ => cases h
  | int i =>
    by_cases h1 : lo ≤ i
    · simp [this, isInt, inB, h1]
    · simp [this, isInt, inB, h1]
  | _ => simp [this, isInt, inB]
theorem are_within_ok {s : PyData} {ds : List PyData} (lo hi : Int) (hs : s = .list ds ∨ s = .tuple ds) (hn : ds.length ≤ lim) (h : ∀ d ∈ ds, plain0 d = true) : f_are_within [s, .int lo, .int hi] = .ok (.bool (ds.all (inB lo hi))) := by
  have e : rho0 4 [s, .int lo, .int hi] = [some s, some (.int lo), some (.int hi), none] := rfl
  unfold f_are_within fnG
  rw [e]
  unfold g_are_within
  have hc := comp_map (vs := [3]) (i := 3) (E := (gFn 3 f_is_within (gConsA (gVar 3) (gConsA (gVar 1) (gConsA (gVar 2) gNilA))))) (gi := (gItA (gVar 0))) (ρ := [some s, some (.int lo), some (.int hi), none]) (ds := ds) (fun d => .bool (inB lo hi d))
    (by rcases hs with rfl | rfl <;> simp) hn (fun d hd => by simp [is_within_ok lo hi (h d hd)])
  simp [hc, bAll_map]
theorem are_tops_l {ds : List PyData} (hn : ds.length ≤ lim) (h : ∀ d ∈ ds, plain0 d = true) : f_are_tops [.list ds] = .ok (.bool (decide (1 ≤ ds.length ∧ ds.length ≤ 3) && ds.all (inB 0 20))) := by
  have e : rho0 1 [PyData.list ds] = [some (.list ds)] := rfl
  unfold f_are_tops fnG
  rw [e]
  unfold g_are_tops
  have := are_within_ok 0 20 (.inl rfl) hn h
  by_cases h1 : 1 ≤ ds.length
  · by_cases h2 : ds.length ≤ 3
    · have h1' : (1 : Int) ≤ ds.length := by omega
      have h2' : (ds.length : Int) ≤ 3 := by omega
      simp [this, h1', h2', h1, h2]
    · have h1' : (1 : Int) ≤ ds.length := by omega
      have h2' : ¬ (ds.length : Int) ≤ 3 := by omega
      simp [h1', h2', h2]
  · have h1' : ¬ (1 : Int) ≤ ds.length := by omega
    simp [h1', h1]
theorem are_tops_t {ds : List PyData} : f_are_tops [.tuple ds] = .ok (.bool false) := by
  have e : rho0 1 [PyData.tuple ds] = [some (.tuple ds)] := rfl
  unfold f_are_tops fnG
  rw [e]
  unfold g_are_tops
  simp
theorem are_numbers_ok {s : PyData} {ds : List PyData} (n : Nat) (hs : s = .list ds ∨ s = .tuple ds) (hn : ds.length ≤ lim) (h : ∀ d ∈ ds, plain0 d = true) : f_are_numbers [s, .int n] = .ok (.bool (decide (ds.length = n) && ds.all (inB (-50) 50))) := by
  have e : rho0 2 [s, .int n] = [some s, some (.int n)] := rfl
  unfold f_are_numbers fnG
  rw [e]
  unfold g_are_numbers
  have := are_within_ok (-50) 50 hs hn h
  have hl : bLen [s] = .ok (.int ds.length) := by rcases hs with rfl | rfl <;> rfl
  by_cases h1 : ds.length = n
  · have h1' : (ds.length : Int) = n := by omega
    simp [this, hl, h1]
  · have h1' : ¬ (ds.length : Int) = n := by omega
    simp [hl, h1, h1']
theorem is_gain_l {ds : List PyData} (n : Nat) (hn : ds.length ≤ lim) (h : ∀ d ∈ ds, plain0 d = true) : f_is_gain [.list ds, .int n] = .ok (.bool (decide (ds.length = n) && ds.all (inB (-50) 50))) := by
  have e : rho0 2 [PyData.list ds, .int n] = [some (.list ds), some (.int n)] := rfl
  unfold f_is_gain fnG
  rw [e]
  unfold g_is_gain
  have := are_numbers_ok n (.inl rfl) hn h
  simp [this]
theorem is_gain_t {ds : List PyData} (n : Nat) : f_is_gain [.tuple ds, .int n] = .ok (.bool false) := by
  have e : rho0 2 [PyData.tuple ds, .int n] = [some (.tuple ds), some (.int n)] := rfl
  unfold f_is_gain fnG
  rw [e]
  unfold g_is_gain
  simp
def isWordB : PyData → Bool
  | .str z => z == "most" || z == "least"
  | _ => false
theorem is_word_ok {d : PyData} (h : plain0 d = true) : f_is_word [d] = .ok (.bool (isWordB d)) := by
  have e : rho0 1 [d] = [some d] := rfl
  unfold f_is_word fnG
  rw [e]
  unfold g_is_word
  cases d with
  | dict _ => cases h
  | str z =>
    have e2 : dIn false (.str z) (.tuple [.str "most", .str "least"]) = .ok (.bool (("most" : Str) == z || ("least" : Str) == z)) := by
      show O.ok (PyData.bool (negB false (([PyData.str "most", PyData.str "least"] : List PyData).any fun e => PyData.eqv e (.str z)))) = _
      show O.ok (PyData.bool ((("most" : Str) == z) || ((("least" : Str) == z) || false))) = _
      rw [Bool.or_false]
    simp [e2, isWordB, Bool.beq_comm (a := z)]
  | _ => simp [isWordB]
def isRowB (n : Nat) : PyData → Bool
  | .tuple [.tuple ns, w, b] => (decide (ns.length = n) && ns.all (inB (-50) 50)) && (isWordB w && inB (-2000) 2000 b)
  | _ => false
theorem row_list (xs : List PyData) (n : Nat) : f_is_row [.list xs, .int n] = .ok (.bool (isRowB n (.list xs))) := by
  have e : rho0 5 [PyData.list xs, .int n] = [some (.list xs), some (.int n), none, none, none] := rfl
  unfold f_is_row fnG
  rw [e]
  unfold g_is_row
  simp [isRowB]
theorem row_2 (x y : PyData) (n : Nat) : f_is_row [.tuple [x, y], .int n] = .ok (.bool (isRowB n (.tuple [x, y]))) := by
  have e : rho0 5 [PyData.tuple [x, y], .int n] = [some (.tuple [x, y]), some (.int n), none, none, none] := rfl
  unfold f_is_row fnG
  rw [e]
  unfold g_is_row
  simp [isRowB]
theorem row_3l (xs : List PyData) (w b : PyData) (n : Nat) : f_is_row [.tuple [.list xs, w, b], .int n] = .ok (.bool (isRowB n (.tuple [.list xs, w, b]))) := by
  have e : rho0 5 [PyData.tuple [.list xs, w, b], .int n] = [some (.tuple [.list xs, w, b]), some (.int n), none, none, none] := rfl
  unfold f_is_row fnG
  rw [e]
  unfold g_is_row
  simp [isRowB]
theorem row_3t {xs : List PyData} {w b : PyData} (n : Nat) (hn : xs.length ≤ lim) (h : ∀ d ∈ xs, plain0 d = true) (hw : plain0 w = true) (hb : plain0 b = true) : f_is_row [.tuple [.tuple xs, w, b], .int n] = .ok (.bool (isRowB n (.tuple [.tuple xs, w, b]))) := by
  have e : rho0 5 [PyData.tuple [.tuple xs, w, b], .int n] = [some (.tuple [.tuple xs, w, b]), some (.int n), none, none, none] := rfl
  unfold f_is_row fnG
  rw [e]
  unfold g_is_row
  have h1 := are_numbers_ok n (.inr rfl) hn h
  have h2 := is_word_ok hw
  have h3 := is_within_ok (-2000) 2000 hb
  show _ = O.ok (PyData.bool ((decide (xs.length = n) && xs.all (inB (-50) 50)) && (isWordB w && inB (-2000) 2000 b)))
  generalize (decide (xs.length = n) && xs.all (inB (-50) 50)) = k1 at h1 ⊢
  generalize isWordB w = k2 at h2 ⊢
  generalize inB (-2000) 2000 b = k3 at h3 ⊢
  cases k1 <;> cases k2 <;> simp [h1, h2, h3]
theorem are_rows_l {rs : List PyData} {n : Nat} (p : PyData → Bool) (hn : rs.length ≤ lim) (h : ∀ r ∈ rs, f_is_row [r, .int n] = .ok (.bool (p r))) : f_are_rows [.list rs, .int n] = .ok (.bool (decide (rs.length ≤ 6) && rs.all p)) := by
  have e : rho0 3 [PyData.list rs, .int n] = [some (.list rs), some (.int n), none] := rfl
  unfold f_are_rows fnG
  rw [e]
  unfold g_are_rows
  have hc := comp_map (vs := [2]) (i := 2) (E := (gFn 2 f_is_row (gConsA (gVar 2) (gConsA (gVar 1) gNilA)))) (gi := (gItA (gVar 0))) (ρ := [some (.list rs), some (.int n), none]) (ds := rs) (fun d => .bool (p d))
    (by simp) hn (fun d hd => by simp [h d hd])
  by_cases h1 : rs.length ≤ 6
  · have h1' : ¬ (6 : Int) < rs.length := by omega
    simp [hc, bAll_map, h1, h1']
  · have h1' : (6 : Int) < rs.length := by omega
    simp [h1, h1']
theorem are_rows_t {rs : List PyData} (n : Nat) : f_are_rows [.tuple rs, .int n] = .ok (.bool false) := by
  have e : rho0 3 [PyData.tuple rs, .int n] = [some (.tuple rs), some (.int n), none] := rfl
  unfold f_are_rows fnG
  rw [e]
  unfold g_are_rows
  simp
/-- the three looks, one behind the other -/
theorem is_problem_1 {t r g : PyData} (h : f_are_tops [t] = .ok (.bool false)) : f_is_problem [t, r, g] = .ok (.bool false) := by
  have e : rho0 3 [t, r, g] = [some t, some r, some g] := rfl
  unfold f_is_problem fnG
  rw [e]
  unfold g_is_problem
  simp [h]
theorem is_problem_2 {ts : List PyData} {r g : PyData} {k l : Bool} (h : f_are_tops [.list ts] = .ok (.bool true)) (h2 : f_are_rows [r, .int ts.length] = .ok (.bool k)) (h3 : f_is_gain [g, .int ts.length] = .ok (.bool l)) : f_is_problem [.list ts, r, g] = .ok (.bool (k && l)) := by
  have e : rho0 3 [PyData.list ts, r, g] = [some (.list ts), some r, some g] := rfl
  unfold f_is_problem fnG
  rw [e]
  unfold g_is_problem
  cases k <;> simp [h, h2, h3]
end K03

set_option Elab.async false
set_option linter.all false
set_option maxRecDepth 100000
namespace K03
open PySem PySem.Spec L2 Fn
def kind (ns : List Int) : Int := cell ns 0 / 4 % 4
theorem kind_ok (ns : List Int) : f__law_kind [scr ns] = .ok (.int (kind ns)) := by
  have e : rho0 1 [scr ns] = [some (scr ns)] := rfl
  unfold f__law_kind fnG
  rw [e]
  unfold g__law_kind kind
  have l1 : Nat.log2 4 < 9000 := by decide
  simp [cell_ok ns 0 (by decide), l1]
theorem gain_ok (ns : List Int) : ∃ gs : List Int, f__law_gain [scr ns] = .ok (.list (gs.map PyData.int)) ∧ gs.length = many ns ∧ ∀ g ∈ gs, bd (-50) 50 g := by
  have e : rho0 3 [scr ns] = [some (scr ns), none, none] := rfl
  unfold f__law_gain fnG
  rw [e]
  unfold g__law_gain
  obtain ⟨m1, m3⟩ := many_bd ns
  have hm := many_ok ns
  have c0 := cell_ok ns 0 (by decide)
  generalize hmm : many ns = m at *
  obtain ⟨gs, t1, t2, t3⟩ := comp_ints (vs := [2]) (i := 2) (E := (gFn 2 f__law_number (gConsA (gFn 2 f__law_cell_at (gConsA (gVar 0) (gConsA (gAdd (gC (.int 4)) (gVar 2)) gNilA))) (gConsA (gFn 1 f__law_kind (gConsA (gVar 0) gNilA)) gNilA)))) (gi := (gRng1 (gConsA (gVar 1) gNilA)))
    (ρ := [some (scr ns), some (.int m), none]) (ds := rangeD 0 m) (bd (-50) 50) (by simp [rng1_nat (show m ≤ 1000 by omega)]) (by rw [rangeD_length]; exact lim_ge (by omega)) (fun d hd => by
      obtain ⟨i, hi, rfl⟩ := rangeD_mem hd
      refine ⟨num (cell ns (4 + i)) (kind ns), ?_, num_bd _ _ (cell_ge _ _)⟩
      simp [cell_ok ns (4 + i) (by omega), kind_ok, num_ok])
  rw [rangeD_length] at t2
  exact ⟨gs, by simp [c0, hm, t1], t2, t3⟩
def bnd (c kind : Int) : Int := if kind = 0 then c % 41 - 12 else if kind = 1 ∧ c % 4 = 0 then c / 4 % 4001 - 2000 else if kind = 1 then c / 4 % 401 - 200 else 2 + c % 31
theorem bnd_ok (c kind : Int) : f__law_bound [.int c, .int kind] = .ok (.int (bnd c kind)) := by
  have e : rho0 2 [PyData.int c, PyData.int kind] = [some (.int c), some (.int kind)] := rfl
  unfold f__law_bound fnG
  rw [e]
  unfold g__law_bound bnd
  have l1 : Nat.log2 4 < 9000 := by decide
  by_cases h0 : kind = 0
  · simp [h0]
  · by_cases h1 : kind = 1
    · by_cases h2 : c % 4 = 0
      · simp [h1, h2, l1]
      · simp [h1, h2, l1]
    · simp [h0, h1]
theorem bnd_bd (c kind : Int) (hc : 0 ≤ c) : bd (-2000) 2000 (bnd c kind) := by
  unfold bd bnd
  split
  · omega
  · split
    · omega
    · split <;> omega
def IsRow (n : Nat) (d : PyData) : Prop := ∃ (ks : List Int) (w : Str) (b : Int), d = .tuple [.tuple (ks.map PyData.int), .str w, .int b] ∧ ks.length = n ∧ (∀ k ∈ ks, bd (-50) 50 k) ∧ (w = "most" ∨ w = "least") ∧ bd (-2000) 2000 b
theorem rows_ok (ns : List Int) : ∃ rs : List PyData, f__law_rows [scr ns] = .ok (.list rs) ∧ rs.length ≤ 6 ∧ ∀ r ∈ rs, IsRow (many ns) r := by
  have e : rho0 11 [scr ns] = [some (scr ns), none, none, none, none, none, none, none, none, none, none] := rfl
  unfold f__law_rows fnG
  rw [e]
  unfold g__law_rows
  obtain ⟨m1, m3⟩ := many_bd ns
  have hm := many_ok ns
  have c0 := cell_ok ns 0 (by decide)
  generalize hmm : many ns = m at *
  have hk := kind_ok ns
  have hc0 := cell_ge ns 0
  have l1 : Nat.log2 4 < 9000 := by decide
  have l2 : Nat.log2 16 < 9000 := by decide
  have l3 : Nat.log2 96 < 9000 := by decide
  have hloop : ∀ n : Nat, n ≤ 6 → ∃ (rs : List PyData) (x5 x6 x7 x8 x9 x10 : Option PyData), gFor (aName 5) (gRng1 (gConsA (gVar 3) gNilA)) (gSeq (gSet 6 (gAdd (gC (.int 7)) (gMul (gC (.int 4)) (gVar 5))))
    (gSeq (gSet 7 (gComp [10] (aName 10) gYes (gFn 2 f__law_number (gConsA (gFn 2 f__law_cell_at (gConsA (gVar 0) (gConsA (gAdd (gVar 6) (gVar 10)) gNilA))) (gConsA (gVar 2) gNilA))) (gRng1 (gConsA (gVar 1) gNilA))))
    (gSeq (gSet 8 (gFn 2 f__law_cell_at (gConsA (gVar 0) (gConsA (gAdd (gVar 6) (gC (.int 3))) gNilA))))
    (gSeq (gSet 9 (gIx (gLst (gConsA (gC (.str "most")) (gConsA (gC (.str "least")) gNilA))) (gMod (gVar 8) (gC (.int 2)))))
    (gSeq (gIfS (gBl (gGt (gVar 2) (gC (.int 1)))) (gSet 9 (gIx (gLst (gConsA (gC (.str "most")) (gConsA (gC (.str "most")) (gConsA (gC (.str "most")) (gConsA (gC (.str "least")) gNilA))))) (gMod (gVar 8) (gC (.int 4))))) gNext)
    (gAppend 4 (gTup (gConsA (gB bTup (gConsA (gVar 7) gNilA)) (gConsA (gVar 9) (gConsA (gFn 2 f__law_bound (gConsA (gFdiv (gVar 8) (gC (.int 4))) (gConsA (gVar 2) gNilA))) gNilA)))))))))) 
      [some (scr ns), some (.int m), some (.int (kind ns)), some (.int n), some (.list []), none, none, none, none, none, none] =
      .nx [some (scr ns), some (.int m), some (.int (kind ns)), some (.int n), some (.list rs), x5, x6, x7, x8, x9, x10] ∧ rs.length = n ∧ ∀ r ∈ rs, IsRow m r := by
    intro n hn
    obtain ⟨ρ', h1, rs, x5, x6, x7, x8, x9, x10, rfl, h2, h3⟩ := for_inv (f := aName 5) (body := (gSeq (gSet 6 (gAdd (gC (.int 7)) (gMul (gC (.int 4)) (gVar 5))))
    (gSeq (gSet 7 (gComp [10] (aName 10) gYes (gFn 2 f__law_number (gConsA (gFn 2 f__law_cell_at (gConsA (gVar 0) (gConsA (gAdd (gVar 6) (gVar 10)) gNilA))) (gConsA (gVar 2) gNilA))) (gRng1 (gConsA (gVar 1) gNilA))))
    (gSeq (gSet 8 (gFn 2 f__law_cell_at (gConsA (gVar 0) (gConsA (gAdd (gVar 6) (gC (.int 3))) gNilA))))
    (gSeq (gSet 9 (gIx (gLst (gConsA (gC (.str "most")) (gConsA (gC (.str "least")) gNilA))) (gMod (gVar 8) (gC (.int 2)))))
    (gSeq (gIfS (gBl (gGt (gVar 2) (gC (.int 1)))) (gSet 9 (gIx (gLst (gConsA (gC (.str "most")) (gConsA (gC (.str "most")) (gConsA (gC (.str "most")) (gConsA (gC (.str "least")) gNilA))))) (gMod (gVar 8) (gC (.int 4))))) gNext)
    (gAppend 4 (gTup (gConsA (gB bTup (gConsA (gVar 7) gNilA)) (gConsA (gVar 9) (gConsA (gFn 2 f__law_bound (gConsA (gFdiv (gVar 8) (gC (.int 4))) (gConsA (gVar 2) gNilA))) gNilA))))))))))) (ds := rangeD 0 n)
      (ρ := [some (scr ns), some (.int m), some (.int (kind ns)), some (.int n), some (.list []), none, none, none, none, none, none])
      (fun i ρ => ∃ (rs : List PyData) (x5 x6 x7 x8 x9 x10 : Option PyData), ρ = [some (scr ns), some (.int m), some (.int (kind ns)), some (.int n), some (.list rs), x5, x6, x7, x8, x9, x10] ∧ rs.length = i ∧ ∀ r ∈ rs, IsRow m r)
      ⟨[], none, none, none, none, none, none, rfl, rfl, fun r hr => by cases hr⟩ (fun i d ρ hd hi => by
        obtain ⟨rs, x5, x6, x7, x8, x9, x10, rfl, h1, h2⟩ := hi
        obtain ⟨rfl, hi⟩ := rangeD_at hd
        obtain ⟨ks, t1, t2, t3⟩ := comp_ints (vs := [10]) (i := 10) (E := (gFn 2 f__law_number (gConsA (gFn 2 f__law_cell_at (gConsA (gVar 0) (gConsA (gAdd (gVar 6) (gVar 10)) gNilA))) (gConsA (gVar 2) gNilA)))) (gi := (gRng1 (gConsA (gVar 1) gNilA)))
          (ρ := [some (scr ns), some (.int m), some (.int (kind ns)), some (.int n), some (.list rs), some (.int i), some (.int (7 + 4 * i)), x7, x8, x9, x10]) (ds := rangeD 0 m) (bd (-50) 50) (by simp [rng1_nat (show m ≤ 1000 by omega)]) (by rw [rangeD_length]; exact lim_ge (by omega)) (fun d hd => by
            obtain ⟨j, hj, rfl⟩ := rangeD_mem hd
            refine ⟨num (cell ns (7 + 4 * i + j)) (kind ns), ?_, num_bd _ _ (cell_ge _ _)⟩
            simp [cell_ok ns (7 + 4 * i + j) (by omega), num_ok])
        rw [rangeD_length] at t2
        have cc := cell_ok ns (7 + 4 * i + 3) (by omega)
        have cg := cell_ge ns (7 + 4 * i + 3)
        generalize cell ns (7 + 4 * i + 3) = cl at cc cg
        obtain ⟨w1, hw1, p1⟩ := pick [.str "most", .str "least"] cl 2 rfl (by decide)
        obtain ⟨w2, hw2, p2⟩ := pick [.str "most", .str "most", .str "most", .str "least"] cl 4 rfl (by decide)
        have bb := bnd_ok (cl / 4) (kind ns)
        have mk : ∀ w : Str, (w = "most" ∨ w = "least") → IsRow m (.tuple [.tuple (ks.map PyData.int), .str w, .int (bnd (cl / 4) (kind ns))]) := fun w hw => ⟨ks, w, _, rfl, t2, t3, hw, bnd_bd _ _ (by omega)⟩
        have ms : mulOk 4 i = true := mulOk_l (by decide)
        by_cases hkk : 1 < kind ns
        · obtain ⟨w, rfl, hw⟩ : ∃ w : Str, w2 = .str w ∧ (w = "most" ∨ w = "least") := by
            simp at hw2
            rcases hw2 with rfl | rfl
            · exact ⟨_, rfl, .inl rfl⟩
            · exact ⟨_, rfl, .inr rfl⟩
          refine ⟨_, _, rfl, ?_, rs ++ [.tuple [.tuple (ks.map PyData.int), .str w, .int (bnd (cl / 4) (kind ns))]], some (.int i), some (.int (7 + 4 * i)), some (.list (ks.map PyData.int)), some (.int cl), some (.str w), x10, rfl, by simp [h1], fun r hr => ?_⟩
          · simp [ms, t1, cc, p1, p2, hkk, bb, l1, lim_gt (show rs.length < 1000 by omega)]
          · rcases List.mem_append.mp hr with q | q
            · exact h2 r q
            · rw [List.mem_singleton.mp q]; exact mk w hw
        · obtain ⟨w, rfl, hw⟩ : ∃ w : Str, w1 = .str w ∧ (w = "most" ∨ w = "least") := by
            simp at hw1
            rcases hw1 with rfl | rfl
            · exact ⟨_, rfl, .inl rfl⟩
            · exact ⟨_, rfl, .inr rfl⟩
          refine ⟨_, _, rfl, ?_, rs ++ [.tuple [.tuple (ks.map PyData.int), .str w, .int (bnd (cl / 4) (kind ns))]], some (.int i), some (.int (7 + 4 * i)), some (.list (ks.map PyData.int)), some (.int cl), some (.str w), x10, rfl, by simp [h1], fun r hr => ?_⟩
          · simp [ms, t1, cc, p1, hkk, bb, l1, lim_gt (show rs.length < 1000 by omega)]
          · rcases List.mem_append.mp hr with q | q
            · exact h2 r q
            · rw [List.mem_singleton.mp q]; exact mk w hw)
    rw [rangeD_length] at h2
    refine ⟨rs, x5, x6, x7, x8, x9, x10, ?_, h2, h3⟩
    rw [gFor_ap]
    simp [rng1_nat (show n ≤ 1000 by omega)]
    exact h1
  by_cases h3 : cell ns 0 / 96 % 8 = 3
  · obtain ⟨rs, x5, x6, x7, x8, x9, x10, h1, h2, h4⟩ := hloop 6 (by decide)
    rw [show ((6 : Nat) : Int) = 6 from rfl] at h1
    exact ⟨rs, by simp [c0, hm, hk, l2, l3, h3, h1], by omega, h4⟩
  · obtain ⟨n, hn, hlt⟩ := nat_of (c := cell ns 0 / 16) (m := 6) (by decide)
    obtain ⟨rs, x5, x6, x7, x8, x9, x10, h1, h2, h4⟩ := hloop n (by omega)
    exact ⟨rs, by simp [c0, hm, hk, l2, l3, h3, hn, h1], by omega, h4⟩
end K03

set_option Elab.async false
set_option linter.all false
set_option maxRecDepth 100000
namespace K03
open PySem PySem.Spec L2 Fn
theorem all_in {lo hi : Int} {ts : List Int} (h : ∀ t ∈ ts, bd lo hi t) : (ts.map PyData.int).all (inB lo hi) = true := by
  rw [List.all_map, List.all_eq_true]
  intro t ht
  obtain ⟨h1, h2⟩ := h t ht
  show (decide (lo ≤ t) && decide (t ≤ hi)) = true
  rw [decide_eq_true h1, decide_eq_true h2]
  rfl
theorem all_not {p : PyData → Bool} {xs : List PyData} {x : PyData} (h : x ∈ xs) (hp : p x = false) : xs.all p = false := by
  rw [List.all_eq_false]
  exact ⟨x, h, by rw [hp]; exact Bool.false_ne_true⟩
theorem plain_ints (ts : List Int) : ∀ d ∈ ts.map PyData.int, plain0 d = true := fun d hd => by
  obtain ⟨t, _, rfl⟩ := List.mem_map.mp hd
  rfl
theorem tops_good {ts : List Int} (h1 : 1 ≤ ts.length) (h3 : ts.length ≤ 3) (h : ∀ t ∈ ts, bd 0 20 t) : f_are_tops [.list (ts.map PyData.int)] = .ok (.bool true) := by
  rw [are_tops_l (lim_ge (by rw [List.length_map]; omega)) (plain_ints ts), all_in h, List.length_map, decide_eq_true ⟨h1, h3⟩]
  rfl
theorem gain_good {gs : List Int} {n : Nat} (hn : gs.length = n) (h3 : n ≤ 3) (h : ∀ t ∈ gs, bd (-50) 50 t) : f_is_gain [.list (gs.map PyData.int), .int n] = .ok (.bool true) := by
  rw [is_gain_l n (lim_ge (by rw [List.length_map]; omega)) (plain_ints gs), all_in h, List.length_map, decide_eq_true hn]
  rfl
theorem row_good {r : PyData} {n : Nat} (h3 : n ≤ 3) (h : IsRow n r) : f_is_row [r, .int n] = .ok (.bool (isRowB n r)) ∧ isRowB n r = true := by
  obtain ⟨ks, w, b, rfl, h1, h2, hw, h4⟩ := h
  refine ⟨row_3t n (lim_ge (by rw [List.length_map]; omega)) (plain_ints ks) rfl rfl, ?_⟩
  show ((decide ((ks.map PyData.int).length = n) && (ks.map PyData.int).all (inB (-50) 50)) && (isWordB (.str w) && inB (-2000) 2000 (.int b))) = true
  rw [all_in h2, List.length_map, decide_eq_true h1]
  have e1 : inB (-2000) 2000 (.int b) = true := by
    show (decide (-2000 ≤ b) && decide (b ≤ 2000)) = true
    rw [decide_eq_true h4.1, decide_eq_true h4.2]
    rfl
  have e2 : isWordB (.str w) = true := by
    rcases hw with rfl | rfl <;> decide +kernel
  rw [e1, e2]
  rfl
theorem rows_good {rs : List PyData} {n : Nat} (hn : rs.length ≤ 6) (h3 : n ≤ 3) (h : ∀ r ∈ rs, IsRow n r) : f_are_rows [.list rs, .int n] = .ok (.bool true) := by
  rw [are_rows_l (isRowB n) (lim_ge (by omega)) fun r hr => (row_good h3 (h r hr)).1, decide_eq_true hn]
  have : rs.all (isRowB n) = true := by
    rw [List.all_eq_true]
    exact fun r hr => (row_good h3 (h r hr)).2
  rw [this]
  rfl
theorem prob_good {ts gs : List Int} {rs : List PyData} (h1 : 1 ≤ ts.length) (h3 : ts.length ≤ 3) (ht : ∀ t ∈ ts, bd 0 20 t) (hr : rs.length ≤ 6) (hrs : ∀ r ∈ rs, IsRow ts.length r) (hg : gs.length = ts.length) (hgs : ∀ t ∈ gs, bd (-50) 50 t) :
    f_is_problem [.list (ts.map PyData.int), .list rs, .list (gs.map PyData.int)] = .ok (.bool true) := by
  have := is_problem_2 (tops_good h1 h3 ht) (r := .list rs) (g := .list (gs.map PyData.int)) (k := true) (l := true) (by rw [List.length_map]; exact rows_good hr h3 hrs) (by rw [List.length_map]; exact gain_good hg h3 hgs)
  exact this
end K03

set_option Elab.async false
set_option linter.all false
set_option maxRecDepth 100000
namespace K03
open PySem PySem.Spec L2 Fn
def prods (ks ps : List Int) : List Int := List.zipWith (fun k p => k * p) ks ps
def dot (ks ps : List Int) : Int := (prods ks ps).sum
theorem comp_mapF {vs : List Nat} {f : PyData → Rho → O Rho} {E : Rho → O PyData} {gi : Rho → O (List PyData)} {ρ : Rho} {ds : List PyData} (y : PyData → PyData) (hg : gi ρ = .ok ds) (hn : ds.length ≤ lim)
    (h : ∀ d ∈ ds, ∃ ρ1, f d (wipeR ρ vs) = .ok ρ1 ∧ E ρ1 = .ok (y d)) : gComp vs f gYes E gi ρ = .ok (.list (ds.map y)) := by
  rw [gComp_ap, hg]
  have := compL_map (f := f) (t := gYes) (e := E) (ρ := wipeR ρ vs) y ds fun d hd => by
    obtain ⟨ρ1, h1, h2⟩ := h d hd
    exact ⟨ρ1, h1, rfl, h2⟩
  simp -implicitDefEqProofs [hn, this]
def mulP : PyData → PyData
  | .tuple [.int k, .int p] => .int (k * p)
  | _ => .none
theorem zip_mul : ∀ ks ps : List Int, (zipD (ks.map PyData.int) (ps.map PyData.int)).map mulP = (prods ks ps).map PyData.int
  | [], _ => rfl
  | _ :: _, [] => rfl
  | k :: ks, p :: ps => by
    show mulP (.tuple [.int k, .int p]) :: (zipD (ks.map PyData.int) (ps.map PyData.int)).map mulP = _
    rw [zip_mul ks ps]
    rfl
theorem zip_mem {ks ps : List Int} {d : PyData} (h : d ∈ zipD (ks.map PyData.int) (ps.map PyData.int)) : ∃ k p, k ∈ ks ∧ p ∈ ps ∧ d = .tuple [.int k, .int p] := by
  obtain ⟨i, hi⟩ := List.getElem?_of_mem h
  unfold zipD at hi
  rw [List.getElem?_zipWith, List.getElem?_map, List.getElem?_map] at hi
  cases h1 : ks[i]? with
  | none => rw [h1] at hi; cases hi
  | some k =>
    cases h2 : ps[i]? with
    | none => rw [h1, h2] at hi; cases hi
    | some p =>
      rw [h1, h2] at hi
      cases hi
      exact ⟨k, p, List.mem_of_getElem? h1, List.mem_of_getElem? h2, rfl⟩
theorem mul50 {k p : Int} (h : bd (-50) 50 k) : mulOk k p = true := mulOk_l (by obtain ⟨h1, h2⟩ := h; constructor <;> omega)
theorem psum_ok {s : PyData} {ks ps : List Int} (hs : s = .list (ks.map PyData.int) ∨ s = .tuple (ks.map PyData.int)) (hn : ks.length ≤ 1000) (hk : ∀ k ∈ ks, bd (-50) 50 k) : f_products_sum [s, .list (ps.map PyData.int)] = .ok (.int (dot ks ps)) := by
  have e : rho0 4 [s, PyData.list (ps.map PyData.int)] = [some s, some (.list (ps.map PyData.int)), none, none] := rfl
  unfold f_products_sum fnG
  rw [e]
  unfold g_products_sum
  have hc := comp_mapF (vs := [2, 3]) (f := (aTup (aCons (aName 2) (aCons (aName 3) aNil)))) (E := (gMul (gVar 2) (gVar 3))) (gi := (gZipM (gConsA (gVar 0) (gConsA (gVar 1) gNilA)))) (ρ := [some s, some (.list (ps.map PyData.int)), none, none])
    (ds := zipD (ks.map PyData.int) (ps.map PyData.int)) mulP (by rcases hs with rfl | rfl <;> simp -implicitDefEqProofs) (lim_ge (by unfold zipD; rw [List.length_zipWith, List.length_map]; omega)) (fun d hd => by
      obtain ⟨k, p, h1, h2, rfl⟩ := zip_mem hd
      refine ⟨_, rfl, ?_⟩
      simp -implicitDefEqProofs [mul50 (hk k h1), mulP])
  rw [zip_mul] at hc
  have hb : bSum [.list ((prods ks ps).map PyData.int)] = .ok (.int (dot ks ps)) := by
    show (match intsD ((prods ks ps).map PyData.int) with
      | some ks => O.ok (PyData.int ks.sum)
      | none => .bad) = _
    rw [Fn.intsD_map]
    rfl
  simp -implicitDefEqProofs [hc, hb]
theorem lsum_ok {s : PyData} {ks ps : List Int} (hs : s = .list (ks.map PyData.int) ∨ s = .tuple (ks.map PyData.int)) (hl : ks.length = ps.length) (hn : ps.length ≤ 1000) (hk : ∀ k ∈ ks, bd (-50) 50 k) : f__law_sum [s, .list (ps.map PyData.int)] = .ok (.int (dot ks ps)) := by
  have e : rho0 4 [s, PyData.list (ps.map PyData.int)] = [some s, some (.list (ps.map PyData.int)), none, none] := rfl
  unfold f__law_sum fnG
  rw [e]
  unfold g__law_sum
  have hloop : ∃ x : Option PyData, gFor (aName 3) (gRng1 (gConsA (gB bLen (gConsA (gVar 1) gNilA)) gNilA)) (gSet 2 (gAdd (gVar 2) (gMul (gIx (gVar 0) (gVar 3)) (gIx (gVar 1) (gVar 3)))))
      [some s, some (.list (ps.map PyData.int)), some (.int 0), none] = .nx [some s, some (.list (ps.map PyData.int)), some (.int (dot ks ps)), x] := by
    obtain ⟨ρ', h3, x, rfl⟩ := for_inv (f := aName 3) (body := (gSet 2 (gAdd (gVar 2) (gMul (gIx (gVar 0) (gVar 3)) (gIx (gVar 1) (gVar 3)))))) (ds := rangeD 0 ps.length)
      (ρ := [some s, some (.list (ps.map PyData.int)), some (.int 0), none])
      (fun i ρ => ∃ x : Option PyData, ρ = [some s, some (.list (ps.map PyData.int)), some (.int ((prods ks ps).take i).sum), x]) ⟨none, rfl⟩ (fun i d ρ hd hi => by
        obtain ⟨x, rfl⟩ := hi
        obtain ⟨rfl, hi⟩ := rangeD_at hd
        have i1 : dIx (.list (ps.map PyData.int)) (.int i) = .ok (.int ps[i]) := dIx_l _ _ (by rw [atI_nat (v := PyData.int ps[i]) (by rw [List.getElem?_map, List.getElem?_eq_getElem hi]; rfl)])
        have hik : i < ks.length := by omega
        have a2 : atI (ks.map PyData.int) (i : Int) = some (.int ks[i]) := atI_nat (v := PyData.int ks[i]) (by rw [List.getElem?_map, List.getElem?_eq_getElem hik]; rfl)
        have i2 : dIx s (.int i) = .ok (.int ks[i]) := by
          rcases hs with rfl | rfl
          · exact dIx_l _ _ a2
          · exact dIx_t _ _ a2
        have hp : (prods ks ps)[i]? = some (ks[i] * ps[i]) := by
          unfold prods
          rw [List.getElem?_zipWith, List.getElem?_eq_getElem hik, List.getElem?_eq_getElem hi]
        have hsum : ((prods ks ps).take (i + 1)).sum = ((prods ks ps).take i).sum + ks[i] * ps[i] := by
          rw [List.take_add_one, hp]
          simp
        refine ⟨_, _, rfl, ?_, some (.int i), rfl⟩
        rw [hsum]
        simp -implicitDefEqProofs [i1, i2, mul50 (hk _ (List.getElem_mem hik))])
    refine ⟨x, ?_⟩
    rw [gFor_ap]
    have ht : ((prods ks ps).take (rangeD 0 ps.length).length).sum = dot ks ps := by
      rw [rangeD_length, List.take_of_length_le (by unfold prods; rw [List.length_zipWith]; omega)]
      rfl
    rw [ht] at h3
    simp -implicitDefEqProofs [rng1_nat (show ps.length ≤ 1000 by omega)]
    exact h3
  obtain ⟨x, hl⟩ := hloop
  simp -implicitDefEqProofs [hl]
end K03

set_option Elab.async false
set_option linter.all false
set_option maxRecDepth 100000
namespace K03
open PySem PySem.Spec L2 Fn
abbrev pD (ts gs : List Int) (rs : List PyData) : PyData := D.prob (ts.map PyData.int) rs (gs.map PyData.int)
section
variable {ts gs : List Int} {rs : List PyData}
theorem fld_tops : gFld "tops" 0 (gC (pD ts gs rs)) [] = .ok (.list (ts.map PyData.int)) := rfl
theorem is_point_t (ds : List PyData) : f_is_point [pD ts gs rs, .tuple ds] = .ok (.bool false) := by
  have e : rho0 3 [pD ts gs rs, PyData.tuple ds] = [some (pD ts gs rs), some (.tuple ds), none] := rfl
  unfold f_is_point fnG
  rw [e]
  unfold g_is_point
  simp -implicitDefEqProofs
theorem is_point_l {ds : List PyData} (hn : ds.length ≤ 1000) (h : ∀ d ∈ ds, plain0 d = true) : f_is_point [pD ts gs rs, .list ds] = .ok (.bool (decide (ds.length = ts.length) && ds.all isInt)) := by
  have e : rho0 3 [pD ts gs rs, PyData.list ds] = [some (pD ts gs rs), some (.list ds), none] := rfl
  unfold f_is_point fnG
  rw [e]
  unfold g_is_point
  have p0 : gFld "tops" 0 (gVar 0) [some (pD ts gs rs), some (.list ds), none] = .ok (.list (ts.map PyData.int)) := rfl
  have hc := comp_map (vs := [2]) (i := 2) (E := (gFn 1 f_is_whole (gConsA (gVar 2) gNilA))) (gi := (gItA (gVar 1))) (ρ := [some (pD ts gs rs), some (.list ds), none]) (ds := ds) (fun d => .bool (isInt d))
    (by simp -implicitDefEqProofs) (lim_ge hn) (fun d hd => by simp -implicitDefEqProofs [is_whole_ok (h d hd)])
  by_cases h1 : ds.length = ts.length
  · simp -implicitDefEqProofs [hc, bAll_map, h1, p0, -gFld_ap]
  · have h1' : ¬ (ds.length : Int) = ts.length := by omega
    simp -implicitDefEqProofs [h1, h1', p0, -gFld_ap]
theorem check_ok {d : PyData} {k : Bool} (h : f_is_point [pD ts gs rs, d] = .ok (.bool k)) : f_check_point [pD ts gs rs, d] = if k = true then .ok .none else .ex 2 := by
  have e : rho0 2 [pD ts gs rs, d] = [some (pD ts gs rs), some d] := rfl
  unfold f_check_point fnG
  rw [e]
  unfold g_check_point
  cases k <;> simp -implicitDefEqProofs [h, outR]
theorem good_point {ps : List Int} (h : ps.length = ts.length) (h3 : ts.length ≤ 3) : f_check_point [pD ts gs rs, .list (ps.map PyData.int)] = .ok .none := by
  have hp := is_point_l (ts := ts) (gs := gs) (rs := rs) (ds := ps.map PyData.int) (by rw [List.length_map]; omega) (plain_ints ps)
  have ha : (ps.map PyData.int).all isInt = true := by
    rw [List.all_map, List.all_eq_true]
    exact fun _ _ => rfl
  rw [List.length_map, decide_eq_true h, ha] at hp
  exact check_ok hp
theorem gained_bad {d : PyData} (h : f_check_point [pD ts gs rs, d] = .ex 2) : f_gained [pD ts gs rs, d] = .ex 2 := by
  have e : rho0 2 [pD ts gs rs, d] = [some (pD ts gs rs), some d] := rfl
  unfold f_gained fnG
  rw [e]
  unfold g_gained
  simp -implicitDefEqProofs [h, outR]
theorem meets_bad {d : PyData} (h : f_check_point [pD ts gs rs, d] = .ex 2) : f_meets [pD ts gs rs, d] = .ex 2 := by
  have e : rho0 5 [pD ts gs rs, d] = [some (pD ts gs rs), some d, none, none, none] := rfl
  unfold f_meets fnG
  rw [e]
  unfold g_meets
  simp -implicitDefEqProofs [h, outR]
theorem gained_ok {ps : List Int} (h : ps.length = ts.length) (h3 : ts.length ≤ 3) (hg : gs.length = ts.length) (hgs : ∀ g ∈ gs, bd (-50) 50 g) : f_gained [pD ts gs rs, .list (ps.map PyData.int)] = .ok (.int (dot gs ps)) := by
  have e : rho0 2 [pD ts gs rs, PyData.list (ps.map PyData.int)] = [some (pD ts gs rs), some (.list (ps.map PyData.int))] := rfl
  unfold f_gained fnG
  rw [e]
  unfold g_gained
  have p0 : gFld "gain" 0 (gVar 0) [some (pD ts gs rs), some (.list (ps.map PyData.int))] = .ok (.list (gs.map PyData.int)) := rfl
  simp -implicitDefEqProofs [good_point h h3, p0, psum_ok (.inl rfl) (show gs.length ≤ 1000 by omega) hgs, -gFld_ap]
/-- what a row says of a point -/
def rowB (ps : List Int) : PyData → Bool
  | .tuple [.tuple ns, .str w, .int b] => match intsD ns with
    | some ks => if w = "most" then decide (dot ks ps ≤ b) else decide (b ≤ dot ks ps)
    | none => false
  | _ => false
theorem rowB_ks {ks ps : List Int} {w : Str} {b : Int} : rowB ps (.tuple [.tuple (ks.map PyData.int), .str w, .int b]) = if w = "most" then decide (dot ks ps ≤ b) else decide (b ≤ dot ks ps) := by
  show (match intsD (ks.map PyData.int) with
    | some ks => if w = "most" then decide (dot ks ps ≤ b) else decide (b ≤ dot ks ps)
    | none => false) = _
  rw [Fn.intsD_map]
theorem mm : dEq (.str "most") (.str "most") = .ok (.bool true) := dEq_self (nice_str (by decide +kernel)) (by decide)
theorem ml : dEq (.str "most") (.str "least") = .ok (.bool false) := by
  have h : PyData.eqv (.str "most") (.str "least") = false := by
    show (("most" : Str) == "least") = false
    decide +kernel
  unfold dEq
  rw [h]
  rfl
theorem lm : dEq (.str "least") (.str "most") = .ok (.bool false) := by
  have h : PyData.eqv (.str "least") (.str "most") = false := by
    show (("least" : Str) == "most") = false
    decide +kernel
  unfold dEq
  rw [h]
  rfl
theorem ll : dEq (.str "least") (.str "least") = .ok (.bool true) := dEq_self (nice_str (by decide +kernel)) (by decide)
theorem lne : ¬ (("least" : Str) = "most") := by decide +kernel
theorem holds_ok {r : PyData} {ps : List Int} {n : Nat} (hr : IsRow n r) (hn : n ≤ 3) (hp : ps.length = n) : f_holds [r, .list (ps.map PyData.int)] = .ok (.bool (rowB ps r)) := by
  obtain ⟨ks, w, b, rfl, h1, h2, hw, h4⟩ := hr
  have e : rho0 6 [PyData.tuple [.tuple (ks.map PyData.int), .str w, .int b], .list (ps.map PyData.int)] = [some (.tuple [.tuple (ks.map PyData.int), .str w, .int b]), some (.list (ps.map PyData.int)), none, none, none, none] := rfl
  unfold f_holds fnG
  rw [e, rowB_ks]
  unfold g_holds
  have hs := psum_ok (ps := ps) (.inr rfl) (show ks.length ≤ 1000 by omega) h2
  rcases hw with rfl | rfl
  · rw [if_pos rfl]
    simp -implicitDefEqProofs [hs, mm]
  · rw [if_neg lne]
    simp -implicitDefEqProofs [hs, lm]
end
end K03

set_option Elab.async false
set_option linter.all false
set_option maxRecDepth 100000
namespace K03
open PySem PySem.Spec L2 Fn
def inAll (ps ts : List Int) : List Bool := List.zipWith (fun p t => decide (0 ≤ p) && decide (p ≤ t)) ps ts
def meetB (ts : List Int) (rs : List PyData) (ps : List Int) : Bool := (inAll ps ts).all id && rs.all (rowB ps)
def inP : PyData → PyData
  | .tuple [.int p, .int t] => .bool (decide (0 ≤ p) && decide (p ≤ t))
  | _ => .none
theorem zip_in : ∀ ps ts : List Int, (zipD (ps.map PyData.int) (ts.map PyData.int)).map inP = (inAll ps ts).map PyData.bool
  | [], _ => rfl
  | _ :: _, [] => rfl
  | p :: ps, t :: ts => by
    show inP (.tuple [.int p, .int t]) :: (zipD (ps.map PyData.int) (ts.map PyData.int)).map inP = _
    rw [zip_in ps ts]
    rfl
section
variable {ts gs : List Int} {rs : List PyData}
theorem meets_ok {ps : List Int} (h : ps.length = ts.length) (h3 : ts.length ≤ 3) (hr : rs.length ≤ 6) (hrs : ∀ r ∈ rs, IsRow ts.length r) : f_meets [pD ts gs rs, .list (ps.map PyData.int)] = .ok (.bool (meetB ts rs ps)) := by
  have e : rho0 5 [pD ts gs rs, PyData.list (ps.map PyData.int)] = [some (pD ts gs rs), some (.list (ps.map PyData.int)), none, none, none] := rfl
  unfold f_meets fnG
  rw [e]
  unfold g_meets
  have hc1 := comp_mapF (vs := [2, 3]) (f := (aTup (aCons (aName 2) (aCons (aName 3) aNil)))) (E := (gFn 3 f_is_within (gConsA (gVar 2) (gConsA (gC (.int 0)) (gConsA (gVar 3) gNilA))))) (gi := (gZipM (gConsA (gVar 1) (gConsA (gFld "tops" 0 (gVar 0)) gNilA))))
    (ρ := [some (pD ts gs rs), some (.list (ps.map PyData.int)), none, none, none]) (ds := zipD (ps.map PyData.int) (ts.map PyData.int)) inP rfl (lim_ge (by unfold zipD; rw [List.length_zipWith, List.length_map]; omega)) (fun d hd => by
      obtain ⟨p, t, h1, h2, rfl⟩ := zip_mem hd
      refine ⟨_, rfl, ?_⟩
      simp -implicitDefEqProofs [is_within_ok 0 t (show plain0 (.int p) = true from rfl), inP, inB])
  rw [zip_in] at hc1
  have hb1 := bAll_map (fun b : Bool => b) (inAll ps ts)
  have hc2 := comp_map (vs := [4]) (i := 4) (E := (gFn 2 f_holds (gConsA (gVar 4) (gConsA (gVar 1) gNilA)))) (gi := (gItA (gFld "rows" 0 (gVar 0)))) (ρ := [some (pD ts gs rs), some (.list (ps.map PyData.int)), none, none, none]) (ds := rs) (fun d => .bool (rowB ps d))
    rfl (lim_ge (by omega)) (fun d hd => by simp -implicitDefEqProofs [holds_ok (hrs d hd) h3 h])
  have hb2 := bAll_map (rowB ps) rs
  have hg := good_point (ts := ts) (gs := gs) (rs := rs) h h3
  have hid : (inAll ps ts).all (fun b => b) = (inAll ps ts).all id := rfl
  rw [hid] at hb1
  unfold meetB
  generalize (inAll ps ts).all id = k1 at hb1 ⊢
  generalize rs.all (rowB ps) = k2 at hb2 ⊢
  cases k1 <;> simp -implicitDefEqProofs [hg, hc1, hb1, hc2, hb2]
theorem lmeets_ok {ps : List Int} (h : ps.length = ts.length) (h3 : ts.length ≤ 3) (hr : rs.length ≤ 6) (hrs : ∀ r ∈ rs, IsRow ts.length r) : f__law_meets [.list (ts.map PyData.int), .list rs, .list (ps.map PyData.int)] = .ok (.bool (meetB ts rs ps)) := by
  have e : rho0 6 [PyData.list (ts.map PyData.int), .list rs, .list (ps.map PyData.int)] = [some (.list (ts.map PyData.int)), some (.list rs), some (.list (ps.map PyData.int)), none, none, none] := rfl
  unfold f__law_meets fnG
  rw [e]
  unfold g__law_meets
  have l1 : ∃ x : Option PyData, gFor (aName 3) (gRng1 (gConsA (gB bLen (gConsA (gVar 0) gNilA)) gNilA)) (gIfS (gOrT (gBl (gLt (gIx (gVar 2) (gVar 3)) (gC (.int 0)))) (gBl (gGt (gIx (gVar 2) (gVar 3)) (gIx (gVar 0) (gVar 3))))) (gRet (gC (.bool false))) gNext)
      [some (.list (ts.map PyData.int)), some (.list rs), some (.list (ps.map PyData.int)), none, none, none] = if (inAll ps ts).all id = true then .nx [some (.list (ts.map PyData.int)), some (.list rs), some (.list (ps.map PyData.int)), x, none, none] else .rt (.bool false) := by
    have key := for_leave (f := aName 3) (body := (gIfS (gOrT (gBl (gLt (gIx (gVar 2) (gVar 3)) (gC (.int 0)))) (gBl (gGt (gIx (gVar 2) (gVar 3)) (gIx (gVar 0) (gVar 3))))) (gRet (gC (.bool false))) gNext)) (ds := rangeD 0 ts.length)
      (ρ := [some (.list (ts.map PyData.int)), some (.list rs), some (.list (ps.map PyData.int)), none, none, none])
      (fun i ρ => (∃ x : Option PyData, ρ = [some (.list (ts.map PyData.int)), some (.list rs), some (.list (ps.map PyData.int)), x, none, none]) ∧ ((inAll ps ts).take i).all id = true)
      (fun R => ∃ x : Option PyData, R = if (inAll ps ts).all id = true then .nx [some (.list (ts.map PyData.int)), some (.list rs), some (.list (ps.map PyData.int)), x, none, none] else .rt (.bool false))
      ⟨⟨none, rfl⟩, rfl⟩ (fun i d ρ hd hi => by
        obtain ⟨⟨x, rfl⟩, hall⟩ := hi
        obtain ⟨rfl, hi⟩ := rangeD_at hd
        have hip : i < ps.length := by omega
        have i1 : dIx (.list (ps.map PyData.int)) (.int i) = .ok (.int ps[i]) := dIx_l _ _ (by rw [atI_nat (v := PyData.int ps[i]) (by rw [List.getElem?_map, List.getElem?_eq_getElem hip]; rfl)])
        have i2 : dIx (.list (ts.map PyData.int)) (.int i) = .ok (.int ts[i]) := dIx_l _ _ (by rw [atI_nat (v := PyData.int ts[i]) (by rw [List.getElem?_map, List.getElem?_eq_getElem hi]; rfl)])
        have hu : (inAll ps ts)[i]? = some (decide (0 ≤ ps[i]) && decide (ps[i] ≤ ts[i])) := by
          unfold inAll
          rw [List.getElem?_zipWith, List.getElem?_eq_getElem hip, List.getElem?_eq_getElem hi]
        refine ⟨_, rfl, ?_⟩
        by_cases g1 : 0 ≤ ps[i]
        · by_cases g2 : ps[i] ≤ ts[i]
          · refine .inl ⟨_, .inl ?_, ⟨some (.int i), rfl⟩, ?_⟩
            · simp -implicitDefEqProofs [i1, i2, show ¬ ps[i] < 0 by omega, show ¬ ts[i] < ps[i] by omega]
            · rw [List.take_add_one, hu, List.all_append, hall, decide_eq_true g1, decide_eq_true g2]
              rfl
          · refine .inr (.inl ⟨.bool false, ?_, none, ?_⟩)
            · simp -implicitDefEqProofs [i1, i2, show ¬ ps[i] < 0 by omega, show ts[i] < ps[i] by omega]
            · rw [if_neg]
              rw [Bool.not_eq_true, List.all_eq_false]
              exact ⟨_, List.mem_of_getElem? hu, by rw [decide_eq_false g2]; simp⟩
        · refine .inr (.inl ⟨.bool false, ?_, none, ?_⟩)
          · simp -implicitDefEqProofs [i1, i2, show ps[i] < 0 by omega]
          · rw [if_neg]
            rw [Bool.not_eq_true, List.all_eq_false]
            exact ⟨_, List.mem_of_getElem? hu, by rw [decide_eq_false g1]; simp⟩) (fun ρ hi => by
        obtain ⟨⟨x, rfl⟩, hall⟩ := hi
        rw [rangeD_length, List.take_of_length_le (by unfold inAll; rw [List.length_zipWith]; omega)] at hall
        exact ⟨x, by rw [if_pos hall]⟩)
    obtain ⟨x, hx⟩ := key
    refine ⟨x, ?_⟩
    rw [← hx, gFor_ap]
    simp -implicitDefEqProofs [rng1_nat (show ts.length ≤ 1000 by omega)]
  obtain ⟨x, hx⟩ := l1
  have l2 : ∃ y z : Option PyData, gFor (aName 4) (gItA (gVar 1)) (gSeq (gSet 5 (gFn 2 f__law_sum (gConsA (gIx (gVar 4) (gC (.int 0))) (gConsA (gVar 2) gNilA))))
    (gIfS (gOrT (gAndT (gBl (gEq (gIx (gVar 4) (gC (.int 1))) (gC (.str "most")))) (gBl (gGt (gVar 5) (gIx (gVar 4) (gC (.int 2)))))) (gAndT (gBl (gEq (gIx (gVar 4) (gC (.int 1))) (gC (.str "least")))) (gBl (gLt (gVar 5) (gIx (gVar 4) (gC (.int 2))))))) (gRet (gC (.bool false))) gNext))
      [some (.list (ts.map PyData.int)), some (.list rs), some (.list (ps.map PyData.int)), x, none, none] = if rs.all (rowB ps) = true then .nx [some (.list (ts.map PyData.int)), some (.list rs), some (.list (ps.map PyData.int)), x, y, z] else .rt (.bool false) := by
    have key := for_leave (f := aName 4) (body := (gSeq (gSet 5 (gFn 2 f__law_sum (gConsA (gIx (gVar 4) (gC (.int 0))) (gConsA (gVar 2) gNilA))))
    (gIfS (gOrT (gAndT (gBl (gEq (gIx (gVar 4) (gC (.int 1))) (gC (.str "most")))) (gBl (gGt (gVar 5) (gIx (gVar 4) (gC (.int 2)))))) (gAndT (gBl (gEq (gIx (gVar 4) (gC (.int 1))) (gC (.str "least")))) (gBl (gLt (gVar 5) (gIx (gVar 4) (gC (.int 2))))))) (gRet (gC (.bool false))) gNext))) (ds := rs)
      (ρ := [some (.list (ts.map PyData.int)), some (.list rs), some (.list (ps.map PyData.int)), x, none, none])
      (fun i ρ => (∃ y z : Option PyData, ρ = [some (.list (ts.map PyData.int)), some (.list rs), some (.list (ps.map PyData.int)), x, y, z]) ∧ (rs.take i).all (rowB ps) = true)
      (fun R => ∃ y z : Option PyData, R = if rs.all (rowB ps) = true then .nx [some (.list (ts.map PyData.int)), some (.list rs), some (.list (ps.map PyData.int)), x, y, z] else .rt (.bool false))
      ⟨⟨none, none, rfl⟩, rfl⟩ (fun i d ρ hd hi => by
        obtain ⟨⟨y, z, rfl⟩, hall⟩ := hi
        have hm := List.mem_of_getElem? hd
        obtain ⟨ks, w, b, rfl, q1, q2, hw, q4⟩ := hrs d hm
        have i0 : dIx (.tuple [.tuple (ks.map PyData.int), .str w, .int b]) (.int 0) = .ok (.tuple (ks.map PyData.int)) := rfl
        have i1 : dIx (.tuple [.tuple (ks.map PyData.int), .str w, .int b]) (.int 1) = .ok (.str w) := rfl
        have i2 : dIx (.tuple [.tuple (ks.map PyData.int), .str w, .int b]) (.int 2) = .ok (.int b) := rfl
        have hs := lsum_ok (ps := ps) (.inr rfl) (show ks.length = ps.length by omega) (by omega) q2
        refine ⟨_, rfl, ?_⟩
        by_cases hk : rowB ps (.tuple [.tuple (ks.map PyData.int), .str w, .int b]) = true
        · refine .inl ⟨_, .inl ?_, ⟨some (.tuple [.tuple (ks.map PyData.int), .str w, .int b]), some (.int (dot ks ps)), rfl⟩, ?_⟩
          · rw [rowB_ks] at hk
            rcases hw with rfl | rfl
            · rw [if_pos rfl] at hk
              have hk := of_decide_eq_true hk
              simp -implicitDefEqProofs [i0, i1, i2, hs, mm, ml, show ¬ b < dot ks ps by omega]
            · rw [if_neg lne] at hk
              have hk := of_decide_eq_true hk
              simp -implicitDefEqProofs [i0, i1, i2, hs, lm, ll, show ¬ dot ks ps < b by omega]
          · rw [List.take_add_one, hd, List.all_append, hall]
            simp [hk]
        · refine .inr (.inl ⟨.bool false, ?_, none, none, ?_⟩)
          · rw [rowB_ks] at hk
            rcases hw with rfl | rfl
            · rw [if_pos rfl] at hk
              have hk := of_decide_eq_false (Bool.not_eq_true _ ▸ hk)
              simp -implicitDefEqProofs [i0, i1, i2, hs, mm, ml, show b < dot ks ps by omega]
            · rw [if_neg lne] at hk
              have hk := of_decide_eq_false (Bool.not_eq_true _ ▸ hk)
              simp -implicitDefEqProofs [i0, i1, i2, hs, lm, ll, show dot ks ps < b by omega]
          · rw [if_neg]
            rw [Bool.not_eq_true, List.all_eq_false]
            exact ⟨_, hm, hk⟩) (fun ρ hi => by
        obtain ⟨⟨y, z, rfl⟩, hall⟩ := hi
        rw [List.take_length] at hall
        exact ⟨y, z, by rw [if_pos hall]⟩)
    obtain ⟨y, z, hx⟩ := key
    refine ⟨y, z, ?_⟩
    rw [← hx, gFor_ap]
    simp -implicitDefEqProofs
  obtain ⟨y, z, hy⟩ := l2
  unfold meetB
  rw [gSeq_ap, hx]
  generalize (inAll ps ts).all id = k1
  cases k1 with
  | false => simp -implicitDefEqProofs [outR]
  | true =>
    rw [if_pos rfl, seq_nx, gSeq_ap, hy]
    generalize rs.all (rowB ps) = k2
    cases k2 <;> simp -implicitDefEqProofs [outR]
end
end K03

set_option Elab.async false
set_option linter.all false
set_option maxRecDepth 100000
namespace K03
open PySem PySem.Spec L2 Fn
section
variable {ts gs : List Int} {rs : List PyData}
theorem check_bad {d : PyData} (h : f_is_point [pD ts gs rs, d] = .ok (.bool false)) : f_check_point [pD ts gs rs, d] = .ex 2 := by
  rw [check_ok h, if_neg Bool.false_ne_true]
theorem no_point_ok (c : Int) (hc : 0 ≤ c) {ps : List Int} (h : ps.length = ts.length) (h1 : 1 ≤ ts.length) (h3 : ts.length ≤ 3) : ∃ d, f__law_no_point [.list (ps.map PyData.int), .int c] = .ok d ∧ f_check_point [pD ts gs rs, d] = .ex 2 := by
  have e : rho0 3 [PyData.list (ps.map PyData.int), .int c] = [some (.list (ps.map PyData.int)), some (.int c), none] := rfl
  unfold f__law_no_point fnG
  rw [e]
  unfold g__law_no_point
  have l8 : Nat.log2 8 < 9000 := by decide
  have np : 0 < ps.length := by omega
  obtain ⟨j, hj, hjn⟩ := nat_of (c := c / 8) (m := (ps.length : Int)) (by omega)
  have hk8 : c % 8 = 0 ∨ c % 8 = 1 ∨ c % 8 = 2 ∨ 3 ≤ c % 8 := by omega
  rcases hk8 with k | k | k | k
  · refine ⟨.tuple (ps.map PyData.int), ?_, check_bad (is_point_t _)⟩
    simp -implicitDefEqProofs [l8, np, hj, k]
  · refine ⟨.list (ps.dropLast.map PyData.int), ?_, check_bad ?_⟩
    · simp -implicitDefEqProofs [l8, np, hj, k, cutL_last]
    · rw [is_point_l (by rw [List.length_map, List.length_dropLast]; omega) (plain_ints _), List.length_map, decide_eq_false (by rw [List.length_dropLast]; omega)]
      rfl
  · refine ⟨.list ((ps ++ [0]).map PyData.int), ?_, check_bad ?_⟩
    · simp -implicitDefEqProofs [l8, np, hj, k]
      rw [if_pos (lim_ge (by omega))]
      simp
    · rw [is_point_l (by rw [List.length_map, List.length_append]; simp; omega) (plain_ints _), List.length_map, decide_eq_false (by simp; omega)]
      rfl
  · obtain ⟨i, hi⟩ : ∃ i : Nat, c % 8 - 3 = i := ⟨(c % 8 - 3).toNat, by omega⟩
    have hi5 : i < 5 := by omega
    obtain ⟨x, mx, px⟩ : ∃ x, x ∈ [PyData.bool true, .str "0", .none, .list [.int 0], .bool false] ∧ dIx (.list [PyData.bool true, .str "0", .none, .list [.int 0], .bool false]) (.int (i : Int)) = .ok x :=
      ⟨_, List.getElem_mem (show i < [PyData.bool true, .str "0", .none, .list [.int 0], .bool false].length from hi5), dIx_l _ _ (by rw [atI_nat (List.getElem?_eq_getElem _)])⟩
    have q : plain0 x = true ∧ isInt x = false := by
      simp at mx
      rcases mx with rfl | rfl | rfl | rfl | rfl <;> exact ⟨rfl, rfl⟩
    have n0 : ¬ c % 8 = 0 := by omega
    have n1 : ¬ c % 8 = 1 := by omega
    have n2 : ¬ c % 8 = 2 := by omega
    have hlen : ((ps.map PyData.int).take j ++ [x] ++ (ps.map PyData.int).drop (j + 1)).length = ps.length := by
      rw [List.length_append, List.length_append, List.length_take, List.length_drop, List.length_map]
      simp
      omega
    refine ⟨.list ((ps.map PyData.int).take j ++ [x] ++ (ps.map PyData.int).drop (j + 1)), ?_, check_bad ?_⟩
    · simp -implicitDefEqProofs [l8, np, hj, n0, n1, n2, hi, px, cutL_to, cutL_from1]
      rw [if_pos (lim_ge (by omega))]
      simp
      rw [if_pos (lim_ge (by omega))]
      simp
    · rw [is_point_l (by rw [hlen]; omega) (fun d hd => ?_), all_not (x := x) (List.mem_append_left _ (List.mem_append_right _ List.mem_cons_self)) q.2, Bool.and_false]
      rcases List.mem_append.mp hd with z | z
      · rcases List.mem_append.mp z with z | z
        · exact plain_ints ps d (List.mem_of_mem_take z)
        · rw [List.mem_singleton.mp z]; exact q.1
      · exact plain_ints ps d (List.mem_of_mem_drop z)
end
end K03

set_option Elab.async false
set_option linter.all false
set_option maxRecDepth 100000
namespace K03
open PySem PySem.Spec L2 Fn
abbrev st_init : Stmt := inClass (topS 19) 0
theorem sc_init : FnScope ["self", "tops", "rows", "gain"] ["self", "tops", "rows", "gain"] (defScope st_init) := ⟨rfl, rfl, rfl, by decide +kernel, rfl, by decide +kernel, by decide +kernel⟩
section
variable {P : Program} {w : World} {K : PySem.W.Frag} {mg : Str → Option Value} {base : Heap} {cls xc : Nat → Addr}
theorem mk_Problem (T : Top K mg xc cls) {f : Addr} {fd : FuncData} (F : Fun K "__init__" "Problem.__init__" st_init f fd) (M : Mk K (cls 0) f) (b : Binds K fd ["self", "tops", "rows", "gain"] []) : MkAt P w K mg base cls xc 8 f_is_problem :=
  ⟨f, fd, init_ok F sc_init T.cl0 T.na_tops T.na_rows T.na_gain fun cdv A outer s H E hr =>
    pss_cons (ps_if (pt_not (pt_truth (pe_callO (ok_is_problem T) hr (by decide) (by rfl) (takes_of rfl rfl rfl rfl) (pa_cons (pv 1) (pa_cons (pv 2) (pa_cons (pv 3) pa_nil)))) (by intro _; rfl))) (pss_one (ps_raiseO rfl (takes_of rfl rfl rfl rfl) T.e_BadProblem (by rfl))) pss_nil)
      (pss_cons (ps_fld (pv 0) (pe_callTy call_list_of (by rfl) T.n_list bt_list (pa_cons (pv 1) pa_nil)) rfl)
      (pss_cons (ps_fld (pv 0) (pe_callTy call_list_of (by rfl) T.n_list bt_list (pa_cons (pv 2) pa_nil)) rfl)
      (pss_one (ps_fld (pv 0) (pe_callTy call_list_of (by rfl) T.n_list bt_list (pa_cons (pv 3) pa_nil)) rfl)))), M, T.mc_Problem, b⟩
end
abbrev st__law_refused : Stmt := topS 43
theorem sc__law_refused : FnScope ["_law_problem", "_law_point", "_law_by_gain", "e"] ["_law_problem", "_law_point", "_law_by_gain"] (defScope st__law_refused) := ⟨rfl, rfl, rfl, by decide +kernel, rfl, by decide +kernel, by decide +kernel⟩
def is2 : O PyData → O PyData
  | .ex 2 => .ok (.bool true)
  | _ => .bad
def f__law_refused : List PyData → O PyData
  | [p, d, .bool true] => is2 (f_gained [p, d])
  | [p, d, .bool false] => is2 (f_meets [p, d])
  | _ => .bad
theorem is2_ok {P : PyData → Prop} {E : Nat → Prop} : ∀ {o : O PyData}, OPost P E (is2 o) → o = .ex 2 ∧ P (.bool true)
  | .ex 0, h => h.elim
  | .ex 1, h => h.elim
  | .ex 2, h => ⟨rfl, h⟩
  | .ex (_ + 3), h => h.elim
  | .ok _, h => h.elim
  | .bad, h => h.elim
section
variable {P : Program} {w : World} {K : PySem.W.Frag} {mg : Str → Option Value} {base : Heap} {cls xc : Nat → Addr}
theorem ok__law_refused (T : Top K mg xc cls) (R : RefN K mg xc 2) : OkAt P w K mg base cls xc "_law_refused" ["_law_problem", "_law_point", "_law_by_gain"] 3 12 f__law_refused := by
  obtain ⟨f, fd, F, m, b⟩ := T.d__law_refused
  refine ⟨f, fd, F.okX sc__law_refused (fun vs H Q E h => ?_) (fun cdv A outer s H vs Q E hr hsp => ?_), m, F.kp, b⟩
  · obtain ⟨F0, ds, _, r, hn, _⟩ := h
    rw [r.length]; exact hn
  · refine ⟨_, pss_cons (ps_try_as (i := 3) rfl rfl sc__law_refused.nd rfl rfl ⟨rfl, by decide, .inl T.e_BadPoint.g⟩ (takes_of rfl rfl rfl rfl)
      (fun W pn xe tk _ => pss_one (ps_if (pt_truthT (cxOf (L2.CX P w) P w K mg base ["_law_problem", "_law_point", "_law_by_gain", "e"] "_law_refused" (defScope st__law_refused) f cdv A outer s H E) pn xe (pv 2) (by intro _; rfl))
        (pss_one (ps_expr (pe_callT (cxOf (L2.CX P w) P w K mg base ["_law_problem", "_law_point", "_law_by_gain", "e"] "_law_refused" (defScope st__law_refused) f cdv A outer s H E) pn xe (ok_gained T) hr (by decide) (by rfl) tk (pa_cons (pv 0) (pa_cons (pv 1) pa_nil)))))
        (pss_one (ps_expr (pe_callT (cxOf (L2.CX P w) P w K mg base ["_law_problem", "_law_point", "_law_by_gain", "e"] "_law_refused" (defScope st__law_refused) f cdv A outer s H E) pn xe (ok_meets T) hr (by decide) (by rfl) tk (pa_cons (pv 0) (pa_cons (pv 1) pa_nil)))))))
      (fun a oe cls d pn hz hf => pss_guard (p := cls = Value.ref (xc 2) ∧ d = none) fun hp =>
        pss_cons (ps_if (PW.pt (pw_or (pt_isE (cxOf (L2.CX P w) P w K mg base ["_law_problem", "_law_point", "_law_by_gain", "e"] "_law_refused" (defScope st__law_refused) f cdv A outer s H E) a pn (i := 3) R.x1 (zc_of hp hz) hf T.n_isinstance (by rfl) (pv 3) (pe_glob (v := .ref (xc 1)) (by rfl) T.e_BadProblem.g rfl)) (pw_or (pt_isE (cxOf (L2.CX P w) P w K mg base ["_law_problem", "_law_point", "_law_by_gain", "e"] "_law_refused" (defScope st__law_refused) f cdv A outer s H E) a pn (i := 3) R.x1 (zc_of hp hz) hf T.n_isinstance (by rfl) (pv 3) (pe_glob (v := .ref (xc 3)) (by rfl) T.e_BadBox.g rfl)) (pw_or1 (pt_isE (cxOf (L2.CX P w) P w K mg base ["_law_problem", "_law_point", "_law_by_gain", "e"] "_law_refused" (defScope st__law_refused) f cdv A outer s H E) a pn (i := 3) R.x1 (zc_of hp hz) hf T.n_isinstance (by rfl) (pv 3) (pe_glob (v := .ref (xc 4)) (by rfl) T.e_BadWeights.g rfl)))))) (pss_one (ps_ret pe_bl)) pss_nil)
        (pss_cons (ps_if (PW.pt (pw_or (pt_isE (cxOf (L2.CX P w) P w K mg base ["_law_problem", "_law_point", "_law_by_gain", "e"] "_law_refused" (defScope st__law_refused) f cdv A outer s H E) a pn (i := 3) R.x1 (zc_of hp hz) hf T.n_isinstance (by rfl) (pv 3) (pe_glob (v := .ref (xc 5)) (by rfl) T.e_NoTurn.g rfl)) (pw_or1 (pt_isE (cxOf (L2.CX P w) P w K mg base ["_law_problem", "_law_point", "_law_by_gain", "e"] "_law_refused" (defScope st__law_refused) f cdv A outer s H E) a pn (i := 3) R.x1 (zc_of hp hz) hf T.n_isinstance (by rfl) (pv 3) (pe_glob (v := .ref (xc 6)) (by rfl) T.e_BadText.g rfl))))) (pss_one (ps_ret pe_bl)) pss_nil)
        (pss_one (ps_ret (pe_and (pe_isE (cxOf (L2.CX P w) P w K mg base ["_law_problem", "_law_point", "_law_by_gain", "e"] "_law_refused" (defScope st__law_refused) f cdv A outer s H E) a pn (i := 3) R.x1 (zc_of hp hz) hf T.n_isinstance (by rfl) (pv 3) (pe_glob (v := .ref (xc 0)) (by rfl) T.e_CutError.g rfl))
          (pe_one (pe_isE (cxOf (L2.CX P w) P w K mg base ["_law_problem", "_law_point", "_law_by_gain", "e"] "_law_refused" (defScope st__law_refused) f cdv A outer s H E) a pn (i := 3) R.x1 (zc_of hp hz) hf T.n_isinstance (by rfl) (pv 3) (pe_bltn (v := .ty "ValueError") (by rfl) R.nV (by decide +kernel) rfl))))))))) (pss_one (ps_ret pe_bl)), ?_⟩
    obtain ⟨F0, ds, sF, r, hn, q⟩ := hsp
    obtain ⟨d1, d2, d3, rfl⟩ : ∃ a b c, ds = [a, b, c] := by
      match ds, hn with
      | [a, b, c], _ => exact ⟨a, b, c, rfl⟩
    obtain ⟨v1, v2, v3, rfl, y1, y2, y3⟩ : ∃ v1 v2 v3, vs = [v1, v2, v3] ∧ Rep K cls F0 v1 d1 ∧ Rep K cls F0 v2 d2 ∧ Rep K cls F0 v3 d3 := by
      cases r with
      | cons r1 r =>
        cases r with
        | cons r2 r =>
          cases r with
          | cons r3 r =>
            cases r
            exact ⟨_, _, _, rfl, r1, r2, r3⟩
    -- the suite, at any such error
    have suite : Q (.bl true) H → True := fun _ => trivial
    unfold f__law_refused at q
    split at q
    · rename_i p d eq
      cases eq
      obtain ⟨e, q⟩ := is2_ok q
      cases y3
      refine ⟨V.bl true, rfl, true, rfl, ?_⟩
      refine ifT ?_
      refine ⟨v1, rfl, v2, rfl, F0, [_, _], sF, .cons y1 (.cons y2 .nil), rfl, ?_⟩
      rw [e]
      intro H2 h2
      refine ⟨true, R.em, fun _ a ha => ⟨⟨rfl, rfl⟩, ?_⟩, fun z => by cases z⟩
      refine isT_rd rfl (fun _ h => h) (R.k 1 (by decide)) (isT_rd rfl (fun _ h => h) (R.k 3 (by decide)) (isT_rd rfl (fun _ h => h) (R.k 4 (by decide)) ?_))
      refine isT_rd rfl (fun _ h => h) (R.k 5 (by decide)) (isT_rd rfl (fun _ h => h) (R.k 6 (by decide)) ?_)
      refine isE_rd rfl (fun _ h => h) (R.k 0 (by decide)) ?_
      refine ⟨true, rfl, ?_⟩
      rw [if_pos rfl]
      refine isE_rd rfl (fun _ h => h) R.kV ?_
      exact q _ H2 F0 ⟨Same.refl _, h2, sF.trans h2, fun _ _ z => .inl z⟩ (.bl true)
    · rename_i p d eq
      cases eq
      obtain ⟨e, q⟩ := is2_ok q
      cases y3
      refine ⟨V.bl false, rfl, false, rfl, ?_⟩
      refine ifF ?_
      refine ⟨v1, rfl, v2, rfl, F0, [_, _], sF, .cons y1 (.cons y2 .nil), rfl, ?_⟩
      rw [e]
      intro H2 h2
      refine ⟨true, R.em, fun _ a ha => ⟨⟨rfl, rfl⟩, ?_⟩, fun z => by cases z⟩
      refine isT_rd rfl (fun _ h => h) (R.k 1 (by decide)) (isT_rd rfl (fun _ h => h) (R.k 3 (by decide)) (isT_rd rfl (fun _ h => h) (R.k 4 (by decide)) ?_))
      refine isT_rd rfl (fun _ h => h) (R.k 5 (by decide)) (isT_rd rfl (fun _ h => h) (R.k 6 (by decide)) ?_)
      refine isE_rd rfl (fun _ h => h) (R.k 0 (by decide)) ?_
      refine ⟨true, rfl, ?_⟩
      rw [if_pos rfl]
      refine isE_rd rfl (fun _ h => h) R.kV ?_
      exact q _ H2 F0 ⟨Same.refl _, h2, sF.trans h2, fun _ _ z => .inl z⟩ (.bl true)
    · exact q.elim
end
end K03

set_option Elab.async false
set_option linter.all false
set_option maxRecDepth 100000
namespace K03
open PySem PySem.Spec L2 Fn
section
variable {P : Program} {w : World} {K : PySem.W.Frag} {mg : Str → Option Value} {base : Heap} {cls xc : Nat → Addr}
abbrev st_law : Stmt := topS 45
theorem sc_law : FnScope ["_law_script", "_law_tops_here", "_law_rows_here", "_law_gain_here", "_law_problem", "_law_point", "_law_k", "_law_cell", "_law_far", "_law_bad", "_law_handed", "_law_row", "_law_ahead", "_law_found", "_law_whole_here"] ["_law_script"] (defScope st_law) := ⟨rfl, rfl, rfl, by decide +kernel, rfl, by decide +kernel, by decide +kernel⟩
def g_law : Rho → R :=
    (gSeq (gSet 1 (gFn 1 f__law_tops (gConsA (gVar 0) gNilA)))
    (gSeq (gSet 2 (gFn 1 f__law_rows (gConsA (gVar 0) gNilA)))
    (gSeq (gSet 3 (gFn 1 f__law_gain (gConsA (gVar 0) gNilA)))
    (gSeq (gSet 4 (gMake f_is_problem (gConsA (gListOf (gConsA (gVar 1) gNilA)) (gConsA (gListOf (gConsA (gVar 2) gNilA)) (gConsA (gListOf (gConsA (gVar 3) gNilA)) gNilA)))))
    (gSeq (gSet 5 (gComp [6] (aName 6) gYes (gSub' (gMod (gFn 2 f__law_cell_at (gConsA (gVar 0) (gConsA (gAdd (gC (.int 31)) (gVar 6)) gNilA))) (gAdd (gIx (gVar 1) (gVar 6)) (gC (.int 5)))) (gC (.int 2))) (gRng1 (gConsA (gB bLen (gConsA (gVar 1) gNilA)) gNilA))))
    (gSeq (gSet 7 (gFn 2 f__law_cell_at (gConsA (gVar 0) (gConsA (gC (.int 34)) gNilA))))
    (gSeq (gIfS (gBl (gEq (gMod (gVar 7) (gC (.int 8))) (gC (.int 3)))) (gSeq (gSet 8 (gAdd (gC (.int 21)) (gMul (gVar 7) (gPow (gC (.int 10)) (gC (.int 24))))))
    (gSetIx 5 (gMod (gFdiv (gVar 7) (gC (.int 8))) (gB bLen (gConsA (gVar 5) gNilA))) (gIx (gLst (gConsA (gVar 8) (gConsA (gNeg (gVar 8)) gNilA))) (gMod (gFdiv (gVar 7) (gC (.int 24))) (gC (.int 2)))))) gNext)
    (gSeq (gIfS (gBl (gEq (gMod (gVar 7) (gC (.int 4))) (gC (.int 1)))) (gSeq (gSet 9 (gFn 2 f__law_no_point (gConsA (gVar 5) (gConsA (gFdiv (gVar 7) (gC (.int 4))) gNilA))))
    (gIfS (gOrT (gNotT (gTru (gFn 3 f__law_refused (gConsA (gVar 4) (gConsA (gVar 9) (gConsA (gC (.bool false)) gNilA)))))) (gNotT (gTru (gFn 3 f__law_refused (gConsA (gVar 4) (gConsA (gVar 9) (gConsA (gC (.bool true)) gNilA))))))) (gRet (gC (.bool false))) gNext)) gNext)
    (gSeq (gSet 10 (gLst gNilA))
    (gSeq (gFor (aName 11) (gItA (gLst (gConsA (gVar 5) (gConsA (gMul (gLst (gConsA (gC (.int 0)) gNilA)) (gB bLen (gConsA (gVar 1) gNilA))) (gConsA (gListOf (gConsA (gVar 1) gNilA)) (gConsA (gAdd (gSl (gVar 5) gNoP (gPart (gNeg (gC (.int 1))))) (gLst (gConsA (gAdd (gIx (gVar 5) (gNeg (gC (.int 1)))) (gC (.int 1))) gNilA))) (gConsA (gVar 5) gNilA))))))) (gSeq (gClear 10)
    (gSeq (gExtend 10 (gVar 11))
    (gSeq (gSet 12 (gIf (gBl (gEq (gMod (gFdiv (gVar 7) (gC (.int 32))) (gC (.int 2))) (gC (.int 1)))) (gFnB 2 f_gained (gConsA (gVar 4) (gConsA (gVar 10) gNilA))) (gC .none)))
    (gSeq (gSet 13 (gFnB 2 f_meets (gConsA (gVar 4) (gConsA (gVar 10) gNilA))))
    (gSeq (gSet 14 (gFnB 2 f_gained (gConsA (gVar 4) (gConsA (gVar 10) gNilA))))
    (gSeq (gIfS (gBl (gNotIn (gVar 12) (gTup (gConsA (gC .none) (gConsA (gVar 14) gNilA))))) (gRet (gC (.bool false))) gNext)
    (gSeq (gIfS (gOrT (gNotT (gTru (gIsi "bool" (gVar 13)))) (gOrT (gNotT (gTru (gFn 1 f__law_whole (gConsA (gVar 14) gNilA)))) (gBl (gNe (gVar 10) (gVar 11))))) (gRet (gC (.bool false))) gNext)
    (gIfS (gOrT (gBl (gNe (gVar 13) (gFn 3 f__law_meets (gConsA (gVar 1) (gConsA (gVar 2) (gConsA (gVar 11) gNilA)))))) (gBl (gNe (gVar 14) (gFn 2 f__law_sum (gConsA (gVar 3) (gConsA (gVar 11) gNilA)))))) (gRet (gC (.bool false))) gNext)))))))))
    (gRet (gAndV (gEq (gFld "tops" 0 (gVar 4)) (gVar 1)) (gAndV (gEq (gFld "rows" 0 (gVar 4)) (gVar 2)) (gEq (gFld "gain" 0 (gVar 4)) (gVar 3)))))))))))))))
def f_law : List PyData → O PyData := fnG 15 g_law
theorem ok_law (T : Top K mg xc cls) (R : RefN K mg xc 2) (mk : MkAt P w K mg base cls xc 8 f_is_problem) {f : Addr} {fd : FuncData} (F : Fun K "law" "law" st_law f fd) (hg : ∀ ns : List Int, ns.length ≤ 63 → f_law [D.ro (ns.map PyData.int)] = .ok (.bool true)) : FnOk P w K mg base (L2.CX P w) 13 f fd ["_law_script"] (spLaw K) :=
  law_fn (cls := cls) (xc := xc) F sc_law g_law [10] (fun cdv A outer s H E F0 hr => ⟨_, (pss_cons (ps_set (i := 1) sc_law.nd rfl (by first | exact Or.inl rfl | exact Or.inr rfl) (pe_callO (ok__law_tops T) hr (by decide) (by rfl) (takes_of rfl rfl rfl rfl) (pa_cons (pv 0) pa_nil)))
      (pss_cons (ps_set (i := 2) sc_law.nd rfl (by first | exact Or.inl rfl | exact Or.inr rfl) (pe_callO (ok__law_rows T) hr (by decide) (by rfl) (takes_of rfl rfl rfl rfl) (pa_cons (pv 0) pa_nil)))
      (pss_cons (ps_set (i := 3) sc_law.nd rfl (by first | exact Or.inl rfl | exact Or.inr rfl) (pe_callO (ok__law_gain T) hr (by decide) (by rfl) (takes_of rfl rfl rfl rfl) (pa_cons (pv 0) pa_nil)))
      (pss_cons (ps_set (i := 4) sc_law.nd rfl (by first | exact Or.inl rfl | exact Or.inr rfl) (pe_makeO mk hr (by decide) (by rfl) (passW (takes_of rfl rfl rfl rfl) rfl) (pa_cons (pe_callTy call_list_of (by rfl) T.n_list bt_list (pa_cons (pv 1) pa_nil)) (pa_cons (pe_callTy call_list_of (by rfl) T.n_list bt_list (pa_cons (pv 2) pa_nil)) (pa_cons (pe_callTy call_list_of (by rfl) T.n_list bt_list (pa_cons (pv 3) pa_nil)) pa_nil)))))
      (pss_cons (ps_setLc (i := 5) (own := [("_law_k", 6)]) rfl sc_law.nd rfl rfl (sw_true rfl rfl rfl (by decide +kernel)) (pi_range1 (by rfl) T.n_range (pa_cons (pe_callB call_len (by rfl) T.n_len bt_len (pa_cons (pv 1) pa_nil)) pa_nil)) (blkOk_by (N := ["_law_script", "_law_tops_here", "_law_rows_here", "_law_gain_here", "_law_problem", "_law_point", "_law_k", "_law_cell", "_law_far", "_law_bad", "_law_handed", "_law_row", "_law_ahead", "_law_found", "_law_whole_here"]) (sc := defScope st_law) (own := [("_law_k", 6)]) (by decide +kernel)) (fun _ _ _ _ _ => (pg_name (i := 6) sc_law.nd rfl (by first | exact Or.inl rfl | exact Or.inr rfl))) (fun _ _ _ _ _ => pts_nil) (fun _ _ _ _ _ => (pe_op op_sub (pe_op op_mod (pe_callO (ok__law_cell_at T) hr (by decide) (by rfl) takes0 (pa_cons (pv 0) (pa_cons (pe_op op_addAll pe_int (pv 6)) pa_nil))) (pe_op op_addAll (pe_ix ix_seq (pv 1) (pv 6) (fun _ _ => rfl)) pe_int)) pe_int)))
      (pss_cons (ps_set (i := 7) sc_law.nd rfl (by first | exact Or.inl rfl | exact Or.inr rfl) (pe_callO (ok__law_cell_at T) hr (by decide) (by rfl) (takes_of rfl rfl rfl rfl) (pa_cons (pv 0) (pa_cons pe_int pa_nil))))
      (pss_cons (ps_if (pt_cmpR (op_eqAll hr.units) (pe_op op_mod (pv 7) pe_int) pe_int (nomark _)) (pss_cons (ps_set (i := 8) sc_law.nd rfl (by first | exact Or.inl rfl | exact Or.inr rfl) (pe_op op_addAll pe_int (pe_op op_mulAll (pv 7) (pe_op op_pow pe_int pe_int))))
      (pss_one (ps_asg (pe_ix ix_seq (pe_lst (pa_cons (pv 8) (pa_cons (pe_un un_neg (pv 8)) pa_nil))) (pe_op op_mod (pe_op op_fdivW (pv 7) pe_int) pe_int) (fun _ _ => rfl)) (pg_sub (pv 5) (pe_op op_mod (pe_op op_fdivW (pv 7) pe_int) (pe_callB call_len (by rfl) T.n_len bt_len (pa_cons (pv 5) pa_nil))) set_list)))) pss_nil)
      (pss_cons (ps_if (pt_cmpR (op_eqAll hr.units) (pe_op op_mod (pv 7) pe_int) pe_int (nomark _)) (pss_cons (ps_set (i := 9) sc_law.nd rfl (by first | exact Or.inl rfl | exact Or.inr rfl) (pe_callO (ok__law_no_point T) hr (by decide) (by rfl) (takes_of rfl rfl rfl rfl) (pa_cons (pv 5) (pa_cons (pe_op op_fdivW (pv 7) pe_int) pa_nil))))
      (pss_one (ps_if (PW.pt (pw_or (pt_not (pt_truth (pe_callO (ok__law_refused T R) hr (by decide) (by rfl) (takes_of rfl rfl rfl rfl) (pa_cons (pv 4) (pa_cons (pv 9) (pa_cons pe_bl pa_nil)))) (by intro _; rfl))) (pw_or1 (pt_not (pt_truth (pe_callO (ok__law_refused T R) hr (by decide) (by rfl) (takes_of rfl rfl rfl rfl) (pa_cons (pv 4) (pa_cons (pv 9) (pa_cons pe_bl pa_nil)))) (by intro _; rfl)))))) (pss_one (ps_ret pe_bl)) pss_nil))) pss_nil)
      (pss_cons (ps_set (i := 10) sc_law.nd rfl (by first | exact Or.inl rfl | exact Or.inr rfl) (pe_lst pa_nil))
      (pss_cons (ps_for (passes_of rfl) rfl (pi_any (pe_lst (pa_cons (pv 5) (pa_cons (pe_op op_mulAll (pe_lst (pa_cons pe_int pa_nil)) (pe_callB call_len (by rfl) T.n_len bt_len (pa_cons (pv 1) pa_nil))) (pa_cons (pe_callTy call_list_of (by rfl) T.n_list bt_list (pa_cons (pv 1) pa_nil)) (pa_cons (pe_op op_addAll (pe_slice sl_all (pv 5) po_none (po_some (pe_un un_neg pe_int))) (pe_lst (pa_cons (pe_op op_addAll (pe_ix ix_seq (pv 5) (pe_un un_neg pe_int) (fun _ _ => rfl)) pe_int) pa_nil))) (pa_cons (pv 5) pa_nil))))))) (pg_name (i := 11) sc_law.nd rfl (by first | exact Or.inl rfl | exact Or.inr rfl)) (pss_cons (ps_expr (pe_bm0 PySem.F.plainAttrs_list PySem.F.slot_list_clear PySem.F.type_list_clear mt_clear (pv 10)))
      (pss_cons (ps_expr (pe_bm PySem.F.plainAttrs_list PySem.F.slot_list_extend PySem.F.type_list_extend mt_extend (pv 10) (pa_cons (pv 11) pa_nil)))
      (pss_cons (ps_set (i := 12) sc_law.nd rfl (by first | exact Or.inl rfl | exact Or.inr rfl) (pe_ifExp (pt_cmpR (op_eqAll hr.units) (pe_op op_mod (pe_op op_fdivW (pv 7) pe_int) pe_int) pe_int (nomark _)) (pe_callO (ok_gained T) hr (by decide) (by rfl) (takes_of rfl rfl rfl rfl) (pa_cons (pv 4) (pa_cons (pv 10) pa_nil))) pe_non))
      (pss_cons (ps_set (i := 13) sc_law.nd rfl (by first | exact Or.inl rfl | exact Or.inr rfl) (pe_callO (ok_meets T) hr (by decide) (by rfl) (takes_of rfl rfl rfl rfl) (pa_cons (pv 4) (pa_cons (pv 10) pa_nil))))
      (pss_cons (ps_set (i := 14) sc_law.nd rfl (by first | exact Or.inl rfl | exact Or.inr rfl) (pe_callO (ok_gained T) hr (by decide) (by rfl) (takes_of rfl rfl rfl rfl) (pa_cons (pv 4) (pa_cons (pv 10) pa_nil))))
      (pss_cons (ps_if (pt_cmpR op_notInAll (pv 12) (pe_tup (pa_cons pe_non (pa_cons (pv 14) pa_nil))) (by rfl)) (pss_one (ps_ret pe_bl)) pss_nil)
      (pss_cons (ps_if (PW.pt (pw_or (pt_not (pt_truth (pe_callB call_isi (by rfl) T.n_isinstance bt_isinstance (pa_cons (pv 13) (pa_cons (pe_bltn (v := .ty "bool") (by rfl) T.n_bool bt_bool rfl) pa_nil))) (by intro _; rfl))) (pw_or (pt_not (pt_truth (pe_callO (ok__law_whole T) hr (by decide) (by rfl) (takes_of rfl rfl rfl rfl) (pa_cons (pv 14) pa_nil)) (by intro _; rfl))) (pw_or1 (pt_cmpR (op_neAll hr.units) (pv 10) (pv 11) (nomark _)))))) (pss_one (ps_ret pe_bl)) pss_nil)
      (pss_one (ps_if (PW.pt (pw_or (pt_cmpR (op_neAll hr.units) (pv 13) (pe_callO (ok__law_meets T) hr (by decide) (by rfl) (takes_of rfl rfl rfl rfl) (pa_cons (pv 1) (pa_cons (pv 2) (pa_cons (pv 11) pa_nil)))) (nomark _)) (pw_or1 (pt_cmpR (op_neAll hr.units) (pv 14) (pe_callO (ok__law_sum T) hr (by decide) (by rfl) (takes_of rfl rfl rfl rfl) (pa_cons (pv 3) (pa_cons (pv 11) pa_nil))) (nomark _))))) (pss_one (ps_ret pe_bl)) pss_nil))))))))))
      (pss_one (ps_ret (pe_and (pe_cmpR (op_eqAll hr.units) (pe_fld (pv 4) rfl) (pv 1) (nomark _)) (pe_and (pe_cmpR (op_eqAll hr.units) (pe_fld (pv 4) rfl) (pv 2) (nomark _)) (pe_one (pe_cmpR (op_eqAll hr.units) (pe_fld (pv 4) rfl) (pv 3) (nomark _))))))))))))))))),
    (fs_seq (own1 := []) (fs_set (fe_call rfl (fa_cons (fe_var rfl) fa_nil)) rfl)
      (fs_seq (own1 := []) (fs_set (fe_call rfl (fa_cons (fe_var rfl) fa_nil)) rfl)
      (fs_seq (own1 := []) (fs_set (fe_call rfl (fa_cons (fe_var rfl) fa_nil)) rfl)
      (fs_seq (own1 := []) (fs_set (fe_make rfl (fa_cons (fe_listOf (fa_cons (fe_var rfl) fa_nil)) (fa_cons (fe_listOf (fa_cons (fe_var rfl) fa_nil)) (fa_cons (fe_listOf (fa_cons (fe_var rfl) fa_nil)) fa_nil)))) rfl)
      (fs_seq (own1 := [5]) (fs_setO (own' := [5]) (fo_comp (vs := [6]) (fi_range1 (fa_cons (fe_callB cf_len (fa_cons (fe_var rfl) fa_nil)) fa_nil)) (fc_name rfl rfl) aName_ex ft_yes (fe_op opf_sub (fe_op opf_mod (fe_call rfl (fa_cons (fe_var rfl) (fa_cons (fe_op opf_add (fe_int 31) (fe_var rfl)) fa_nil))) (fe_op opf_add (fe_op opf_ix (fe_var rfl) (fe_var rfl)) (fe_int 5))) (fe_int 2))) gComp_list rfl)
      (fs_seq (own1 := [5]) (fs_set (fe_call rfl (fa_cons (fe_var rfl) (fa_cons (fe_int 34) fa_nil))) rfl)
      (fs_seq (own1 := [5]) (fs_if (own' := [5]) (ft_test (fe_op opf_eq (fe_op opf_mod (fe_var rfl) (fe_int 8)) (fe_int 3))) (fs_seq (own1 := [5]) (fs_set (fe_op opf_add (fe_int 21) (fe_op opf_mul (fe_var rfl) (fe_op opf_pow (fe_int 10) (fe_int 24)))) rfl)
      (fs_setIx (fe_op opf_ix (fe_lst (fa_cons (fe_var rfl) (fa_cons (fe_un unf_neg (fe_var rfl)) fa_nil))) (fe_op opf_mod (fe_op opf_fdiv (fe_var rfl) (fe_int 24)) (fe_int 2))) (fe_op opf_mod (fe_op opf_fdiv (fe_var rfl) (fe_int 8)) (fe_callB cf_len (fa_cons fe_varO fa_nil))) rfl)) fs_next)
      (fs_seq (own1 := []) (fs_if (own' := []) (ft_test (fe_op opf_eq (fe_op opf_mod (fe_var rfl) (fe_int 4)) (fe_int 1))) (fs_seq (own1 := []) (fs_freeze [] (fs_set (fe_call rfl (fa_cons (fe_var rfl) (fa_cons (fe_op opf_fdiv (fe_var rfl) (fe_int 4)) fa_nil))) rfl) rfl)
      (fs_if (own' := []) (ft_or (ft_not (ft_truth (fe_call rfl (fa_cons (fe_var rfl) (fa_cons (fe_var rfl) (fa_cons (fe_bool false) fa_nil)))))) (ft_not (ft_truth (fe_call rfl (fa_cons (fe_var rfl) (fa_cons (fe_var rfl) (fa_cons (fe_bool true) fa_nil))))))) (fs_ret (fe_bool false)) fs_next)) (fs_weak [5] fs_next rfl))
      (fs_seq (own1 := [10]) (fs_setO (own' := [10]) (fo_lst fa_nil) gLst_list rfl)
      (fs_seq (own1 := [10]) (fs_for (fi_any (fe_lst (fa_cons (fe_var rfl) (fa_cons (fe_op opf_mul (fe_lst (fa_cons (fe_int 0) fa_nil)) (fe_callB cf_len (fa_cons (fe_var rfl) fa_nil))) (fa_cons (fe_listOf (fa_cons (fe_var rfl) fa_nil)) (fa_cons (fe_op opf_add (fe_slice (fe_var rfl) fp_none (fp_some (fe_un unf_neg (fe_int 1)))) (fe_lst (fa_cons (fe_op opf_add (fe_op opf_ix (fe_var rfl) (fe_un unf_neg (fe_int 1))) (fe_int 1)) fa_nil))) (fa_cons (fe_var rfl) fa_nil))))))) (fg_name rfl) aName_ex (fs_seq (own1 := [10]) (fs_clear rfl)
      (fs_seq (own1 := [10]) (fs_extend (fe_var rfl) rfl)
      (fs_seq (own1 := [10]) (fs_set (fe_if (ft_test (fe_op opf_eq (fe_op opf_mod (fe_op opf_fdiv (fe_var rfl) (fe_int 32)) (fe_int 2)) (fe_int 1))) (fe_callS rfl (fa_cons (fe_var rfl) (fa_cons fe_varO fa_nil))) fe_none) rfl)
      (fs_seq (own1 := [10]) (fs_set (fe_callS rfl (fa_cons (fe_var rfl) (fa_cons fe_varO fa_nil))) rfl)
      (fs_seq (own1 := [10]) (fs_set (fe_callS rfl (fa_cons (fe_var rfl) (fa_cons fe_varO fa_nil))) rfl)
      (fs_seq (own1 := [10]) (fs_if (own' := [10]) (ft_test (fe_op opf_in (fe_var rfl) (fe_tup (fa_cons fe_none (fa_cons (fe_var rfl) fa_nil))))) (fs_ret (fe_bool false)) fs_next)
      (fs_seq (own1 := [10]) (fs_if (own' := [10]) (ft_or (ft_not (ft_truth (fe_isi kit_bool (fe_var rfl)))) (ft_or (ft_not (ft_truth (fe_call rfl (fa_cons (fe_var rfl) fa_nil)))) (ft_test (fe_op opf_ne fe_varO (fe_var rfl))))) (fs_ret (fe_bool false)) fs_next)
      (fs_if (own' := [10]) (ft_or (ft_test (fe_op opf_ne (fe_var rfl) (fe_call rfl (fa_cons (fe_var rfl) (fa_cons (fe_var rfl) (fa_cons (fe_var rfl) fa_nil)))))) (ft_test (fe_op opf_ne (fe_var rfl) (fe_call rfl (fa_cons (fe_var rfl) (fa_cons (fe_var rfl) fa_nil)))))) (fs_ret (fe_bool false)) fs_next)))))))))
      (fs_ret (fe_and (fe_op opf_eq (fe_fld T.cl0 T.na_tops (fe_var rfl)) (fe_var rfl)) (fe_and (fe_op opf_eq (fe_fld T.cl0 T.na_rows (fe_var rfl)) (fe_var rfl)) (fe_op opf_eq (fe_fld T.cl0 T.na_gain (fe_var rfl)) (fe_var rfl)))))))))))))))⟩) hg
end
end K03

set_option Elab.async false
set_option linter.all false
set_option maxRecDepth 100000
namespace K03
open PySem PySem.Spec L2 Fn
theorem whole_int (k : Int) : f__law_whole [.int k] = .ok (.bool true) := by
  have e : rho0 1 [PyData.int k] = [some (.int k)] := rfl
  unfold f__law_whole fnG
  rw [e]
  unfold g__law_whole
  simp -implicitDefEqProofs
theorem nice_bool (k : Bool) : Nice 0 (.bool k) := ⟨rfl, by simp [PyData.canLay0], by simp [PyData.depth]⟩
theorem nice_row {n : Nat} {d : PyData} (h : IsRow n d) : Nice 2 d := by
  obtain ⟨ks, w, b, rfl, _, _, hw, _⟩ := h
  refine nice_tup fun e he => ?_
  simp at he
  rcases he with rfl | rfl | rfl
  · exact nice_tup nice_mapI
  · rcases hw with rfl | rfl
    · exact (nice_str (by decide +kernel)).up (by decide)
    · exact (nice_str (by decide +kernel)).up (by decide)
  · exact (nice_int b).up (by decide)
theorem repL_one {d : PyData} {n : Nat} (h1 : 1 ≤ n) (h2 : n ≤ 1000) : repL [d] (n : Int) = .ok (List.replicate n d) := by
  unfold repL
  rw [if_pos ⟨limI_neg (by omega), limI_ge (by omega), by rw [Int.toNat_natCast]; exact lim_ge (by simp; omega)⟩, Int.toNat_natCast]
  congr 1
  clear h1 h2
  induction n with
  | zero => rfl
  | succ n ih => rw [List.replicate_succ, List.flatten_cons, ih]; rfl
theorem in1 (z : Int) : dIn true .none (.tuple [.none, .int z]) = .ok (.bool false) := rfl
theorem in2 (z : Int) : dIn true (.int z) (.tuple [.none, .int z]) = .ok (.bool false) := by
  show O.ok (PyData.bool (negB true (([PyData.none, PyData.int z] : List PyData).any fun e => PyData.eqv e (.int z)))) = _
  have h : PyData.eqv (.int z) (.int z) = true := by simp [PyData.eqv]
  have h0 : PyData.eqv .none (.int z) = false := by simp [PyData.eqv]
  simp [h, h0, negB]
theorem flI (z : Int) : flatO (.int z) = .ok (.int z) := rfl
theorem flB (z : Bool) : flatO (.bool z) = .ok (.bool z) := rfl
section
variable {ts gs : List Int} {rs : List PyData}
theorem refused_ok {d : PyData} (h : f_check_point [pD ts gs rs, d] = .ex 2) (k : Bool) : f__law_refused [pD ts gs rs, d, .bool k] = .ok (.bool true) := by
  cases k with
  | true =>
    show is2 (f_gained [pD ts gs rs, d]) = _
    rw [gained_bad h]
    rfl
  | false =>
    show is2 (f_meets [pD ts gs rs, d]) = _
    rw [meets_bad h]
    rfl
theorem body_ok (ns : List Int) {ps qs : List Int} (cc : Int) (x6 x8 x9 x10 x12 x13 x14 : Option PyData) {ds : List PyData} (hq : qs.length = ts.length) (h3 : ts.length ≤ 3) (hg : gs.length = ts.length) (hgs : ∀ g ∈ gs, bd (-50) 50 g) (hr : rs.length ≤ 6) (hrs : ∀ r ∈ rs, IsRow ts.length r) :
    ∃ y, (gSeq (gClear 10)
    (gSeq (gExtend 10 (gVar 11))
    (gSeq (gSet 12 (gIf (gBl (gEq (gMod (gFdiv (gVar 7) (gC (.int 32))) (gC (.int 2))) (gC (.int 1)))) (gFnB 2 f_gained (gConsA (gVar 4) (gConsA (gVar 10) gNilA))) (gC .none)))
    (gSeq (gSet 13 (gFnB 2 f_meets (gConsA (gVar 4) (gConsA (gVar 10) gNilA))))
    (gSeq (gSet 14 (gFnB 2 f_gained (gConsA (gVar 4) (gConsA (gVar 10) gNilA))))
    (gSeq (gIfS (gBl (gNotIn (gVar 12) (gTup (gConsA (gC .none) (gConsA (gVar 14) gNilA))))) (gRet (gC (.bool false))) gNext)
    (gSeq (gIfS (gOrT (gNotT (gTru (gIsi "bool" (gVar 13)))) (gOrT (gNotT (gTru (gFn 1 f__law_whole (gConsA (gVar 14) gNilA)))) (gBl (gNe (gVar 10) (gVar 11))))) (gRet (gC (.bool false))) gNext)
    (gIfS (gOrT (gBl (gNe (gVar 13) (gFn 3 f__law_meets (gConsA (gVar 1) (gConsA (gVar 2) (gConsA (gVar 11) gNilA)))))) (gBl (gNe (gVar 14) (gFn 2 f__law_sum (gConsA (gVar 3) (gConsA (gVar 11) gNilA)))))) (gRet (gC (.bool false))) gNext)))))))) [some (scr ns), some (.list (ts.map PyData.int)), some (.list rs), some (.list (gs.map PyData.int)), some (pD ts gs rs), some (.list (ps.map PyData.int)), x6, some (.int cc), x8, x9, some (.list ds), some (.list (qs.map PyData.int)), x12, x13, x14] =
      .nx [some (scr ns), some (.list (ts.map PyData.int)), some (.list rs), some (.list (gs.map PyData.int)), some (pD ts gs rs), some (.list (ps.map PyData.int)), x6, some (.int cc), x8, x9, some (.list (qs.map PyData.int)), some (.list (qs.map PyData.int)), y, some (.bool (meetB ts rs qs)), some (.int (dot gs qs))] := by
  have gq := gained_ok (rs := rs) hq h3 hg hgs
  have mq := meets_ok (gs := gs) hq h3 hr hrs
  have lq := lmeets_ok hq h3 hr hrs
  have sq := lsum_ok (s := .list (gs.map PyData.int)) (ks := gs) (ps := qs) (.inl rfl) (by omega) (by omega) hgs
  have l32 : Nat.log2 32 < 9000 := by decide
  have n1 := dNe_self (nice_list (ds := qs.map PyData.int) nice_mapI) (by decide)
  have n2 := dNe_self (nice_bool (meetB ts rs qs)) (by decide)
  have hl : qs.length ≤ lim := lim_ge (by omega)
  by_cases hc : cc / 32 % 2 = 1
  · exact ⟨some (.int (dot gs qs)), by simp -implicitDefEqProofs [gq, mq, lq, sq, l32, n1, n2, hc, hl, flI, flB, in2, whole_int]⟩
  · exact ⟨some .none, by simp -implicitDefEqProofs [gq, mq, lq, sq, l32, n1, n2, hc, hl, flI, flB, in1, whole_int]⟩
end
end K03

set_option Elab.async false
set_option linter.all false
set_option maxRecDepth 100000
namespace K03
open PySem PySem.Spec L2 Fn
section
variable {ts gs : List Int} {rs : List PyData}
theorem makes (h1 : 1 ≤ ts.length) (h3 : ts.length ≤ 3) (ht : ∀ t ∈ ts, bd 0 20 t) (hr : rs.length ≤ 6) (hrs : ∀ r ∈ rs, IsRow ts.length r) (hg : gs.length = ts.length) (hgs : ∀ t ∈ gs, bd (-50) 50 t) :
    makeP f_is_problem [.list (ts.map PyData.int), .list rs, .list (gs.map PyData.int)] = .ok (pD ts gs rs) := by
  unfold makeP
  rw [prob_good h1 h3 ht hr hrs hg hgs]
  rfl
theorem far_ok (ns : List Int) {ps : List Int} (cc : Int) (c0 : 0 ≤ cc) (c1 : cc < 1000003) (x6 : Option PyData) (hp : ps.length = ts.length) (h1 : 1 ≤ ts.length) (h3 : ts.length ≤ 3) :
    ∃ (ps1 : List Int) (x8 : Option PyData), (gIfS (gBl (gEq (gMod (gVar 7) (gC (.int 8))) (gC (.int 3)))) (gSeq (gSet 8 (gAdd (gC (.int 21)) (gMul (gVar 7) (gPow (gC (.int 10)) (gC (.int 24))))))
    (gSetIx 5 (gMod (gFdiv (gVar 7) (gC (.int 8))) (gB bLen (gConsA (gVar 5) gNilA))) (gIx (gLst (gConsA (gVar 8) (gConsA (gNeg (gVar 8)) gNilA))) (gMod (gFdiv (gVar 7) (gC (.int 24))) (gC (.int 2)))))) gNext) [some (scr ns), some (.list (ts.map PyData.int)), some (.list rs), some (.list (gs.map PyData.int)), some (pD ts gs rs), some (.list (ps.map PyData.int)), x6, some (.int cc), none, none, none, none, none, none, none] =
      .nx [some (scr ns), some (.list (ts.map PyData.int)), some (.list rs), some (.list (gs.map PyData.int)), some (pD ts gs rs), some (.list (ps1.map PyData.int)), x6, some (.int cc), x8, none, none, none, none, none, none] ∧ ps1.length = ts.length := by
  by_cases h : cc % 8 = 3
  · obtain ⟨M, hM⟩ : ∃ M : Int, dPow (.int 10) (.int 24) = .ok (.int M) := ⟨_, rfl⟩
    have l8 : Nat.log2 8 < 9000 := by decide
    have l24 : Nat.log2 24 < 9000 := by decide
    have hm : mulOk cc M = true := mulOk_l (by constructor <;> omega)
    have np : 0 < ps.length := by omega
    obtain ⟨j, hj, hjn⟩ := nat_of (c := cc / 8) (m := (ps.length : Int)) (by omega)
    obtain ⟨v, mv, pv⟩ := pick [.int (21 + cc * M), .int (-(21 + cc * M))] (cc / 24) 2 rfl (by decide)
    obtain ⟨z, rfl⟩ : ∃ z : Int, v = .int z := by
      simp only [List.mem_cons, List.not_mem_nil, or_false] at mv
      rcases mv with rfl | rfl
      · exact ⟨_, rfl⟩
      · exact ⟨_, rfl⟩
    refine ⟨ps.set j z, some (.int (21 + cc * M)), ?_, by rw [List.length_set]; exact hp⟩
    simp -implicitDefEqProofs [h, hM, hm, l8, l24, hj, pv, np, ixN_of (n := ps.length) (i := (j : Int)) (by omega) (by omega)]
  · exact ⟨ps, none, by simp -implicitDefEqProofs [h], hp⟩
theorem none_ok (ns : List Int) {ps : List Int} (cc : Int) (c0 : 0 ≤ cc) (x6 x8 : Option PyData) (hp : ps.length = ts.length) (h1 : 1 ≤ ts.length) (h3 : ts.length ≤ 3) :
    ∃ x9 : Option PyData, (gIfS (gBl (gEq (gMod (gVar 7) (gC (.int 4))) (gC (.int 1)))) (gSeq (gSet 9 (gFn 2 f__law_no_point (gConsA (gVar 5) (gConsA (gFdiv (gVar 7) (gC (.int 4))) gNilA))))
    (gIfS (gOrT (gNotT (gTru (gFn 3 f__law_refused (gConsA (gVar 4) (gConsA (gVar 9) (gConsA (gC (.bool false)) gNilA)))))) (gNotT (gTru (gFn 3 f__law_refused (gConsA (gVar 4) (gConsA (gVar 9) (gConsA (gC (.bool true)) gNilA))))))) (gRet (gC (.bool false))) gNext)) gNext) [some (scr ns), some (.list (ts.map PyData.int)), some (.list rs), some (.list (gs.map PyData.int)), some (pD ts gs rs), some (.list (ps.map PyData.int)), x6, some (.int cc), x8, none, none, none, none, none, none] =
      .nx [some (scr ns), some (.list (ts.map PyData.int)), some (.list rs), some (.list (gs.map PyData.int)), some (pD ts gs rs), some (.list (ps.map PyData.int)), x6, some (.int cc), x8, x9, none, none, none, none, none] := by
  have l4 : Nat.log2 4 < 9000 := by decide
  by_cases h : cc % 4 = 1
  · obtain ⟨d, d1, d2⟩ := no_point_ok (gs := gs) (rs := rs) (cc / 4) (by omega) hp h1 h3
    have r1 := refused_ok d2 true
    have r2 := refused_ok d2 false
    exact ⟨some d, by simp -implicitDefEqProofs [h, l4, d1, r1, r2]⟩
  · exact ⟨none, by simp -implicitDefEqProofs [h]⟩
theorem last_at (ps : List Int) (h : 0 < ps.length) : atI (ps.map PyData.int) (-1) = some (.int (ps[ps.length - 1]'(by omega))) := by
  unfold atI ixN
  rw [List.length_map, if_neg (show ¬ (0 : Int) ≤ -1 by decide), if_pos (show -(ps.length : Int) ≤ -1 by omega)]
  have e : ((ps.length : Int) + -1).toNat = ps.length - 1 := by omega
  show (ps.map PyData.int)[((ps.length : Int) + -1).toNat]? = _
  rw [e, List.getElem?_map, List.getElem?_eq_getElem (by omega)]
  rfl
theorem five (ns : List Int) {ps : List Int} (x6 x7 x8 x9 : Option PyData) (hp : ps.length = ts.length) (h1 : 1 ≤ ts.length) (h3 : ts.length ≤ 3) :
    ∃ ds, (gItA (gLst (gConsA (gVar 5) (gConsA (gMul (gLst (gConsA (gC (.int 0)) gNilA)) (gB bLen (gConsA (gVar 1) gNilA))) (gConsA (gListOf (gConsA (gVar 1) gNilA)) (gConsA (gAdd (gSl (gVar 5) gNoP (gPart (gNeg (gC (.int 1))))) (gLst (gConsA (gAdd (gIx (gVar 5) (gNeg (gC (.int 1)))) (gC (.int 1))) gNilA))) (gConsA (gVar 5) gNilA))))))) [some (scr ns), some (.list (ts.map PyData.int)), some (.list rs), some (.list (gs.map PyData.int)), some (pD ts gs rs), some (.list (ps.map PyData.int)), x6, x7, x8, x9, some (.list []), none, none, none, none] = .ok ds ∧ ∀ d ∈ ds, ∃ qs : List Int, d = .list (qs.map PyData.int) ∧ qs.length = ts.length := by
  have np : 0 < ps.length := by omega
  have i1 : dIx (.list (ps.map PyData.int)) (.int (-1)) = .ok (.int (ps[ps.length - 1]'(by omega))) := dIx_l _ _ (last_at ps (by omega))
  have z : dMul (.list [.int 0]) (.int ts.length) = .ok (.list (List.replicate ts.length (.int 0))) := by
    show (repL [PyData.int 0] (ts.length : Int)).bind _ = _
    rw [repL_one h1 (by omega)]
    rfl
  refine ⟨[.list (ps.map PyData.int), .list ((List.replicate ts.length (0 : Int)).map PyData.int), .list (ts.map PyData.int), .list ((ps.dropLast ++ [ps[ps.length - 1]'(by omega) + 1]).map PyData.int), .list (ps.map PyData.int)], ?_, ?_⟩
  · simp -implicitDefEqProofs [z, i1, cutL_last, -dMul_l]
    rw [if_pos (lim_ge (by omega))]
    simp -implicitDefEqProofs
  · intro d hd
    simp only [List.mem_cons, List.not_mem_nil, or_false] at hd
    rcases hd with rfl | rfl | rfl | rfl | rfl
    · exact ⟨_, rfl, hp⟩
    · exact ⟨_, rfl, List.length_replicate⟩
    · exact ⟨_, rfl, rfl⟩
    · exact ⟨_, rfl, by rw [List.length_append, List.length_dropLast, List.length_singleton]; omega⟩
    · exact ⟨_, rfl, hp⟩
end
end K03

set_option Elab.async false
set_option linter.all false
set_option maxRecDepth 100000
namespace K03
open PySem PySem.Spec L2 Fn
theorem law_true (ns : List Int) : f_law [scr ns] = .ok (.bool true) := by
  have e : rho0 15 [scr ns] = [some (scr ns), none, none, none, none, none, none, none, none, none, none, none, none, none, none] := rfl
  unfold f_law fnG
  rw [e]
  unfold g_law
  obtain ⟨ts, t1, t2, t3⟩ := tops_ok ns
  obtain ⟨rs, r1, r2, r3⟩ := rows_ok ns
  obtain ⟨gs, g1, g2, g3⟩ := gain_ok ns
  obtain ⟨m1, m3⟩ := many_bd ns
  rw [← t2] at r3 g2 m1 m3
  have mkp := makes m1 m3 t3 r2 r3 g2 g3
  have c34 := cell_ok ns 34 (by decide)
  obtain ⟨ps, p1, p2, _⟩ := comp_ints (vs := [6]) (i := 6) (E := (gSub' (gMod (gFn 2 f__law_cell_at (gConsA (gVar 0) (gConsA (gAdd (gC (.int 31)) (gVar 6)) gNilA))) (gAdd (gIx (gVar 1) (gVar 6)) (gC (.int 5)))) (gC (.int 2)))) (gi := (gRng1 (gConsA (gB bLen (gConsA (gVar 1) gNilA)) gNilA)))
    (ρ := [some (scr ns), some (.list (ts.map PyData.int)), some (.list rs), some (.list (gs.map PyData.int)), some (pD ts gs rs), none, none, none, none, none, none, none, none, none, none]) (ds := rangeD 0 ts.length) (fun _ => True) (by simp -implicitDefEqProofs [rng1_nat (show ts.length ≤ 1000 by omega)]) (by rw [rangeD_length]; exact lim_ge (by omega)) (fun d hd => by
      obtain ⟨i, hi, rfl⟩ := rangeD_mem hd
      have a1 : dIx (.list (ts.map PyData.int)) (.int i) = .ok (.int ts[i]) := dIx_l _ _ (by rw [atI_nat (v := PyData.int ts[i]) (by rw [List.getElem?_map, List.getElem?_eq_getElem hi]; rfl)])
      have b0 := (t3 _ (List.getElem_mem hi)).1
      refine ⟨cell ns (31 + i) % (ts[i] + 5) - 2, ?_, trivial⟩
      simp -implicitDefEqProofs [cell_ok ns (31 + i) (by omega), a1, show 0 < ts[i] + 5 by omega])
  rw [rangeD_length] at p2
  obtain ⟨ps1, x8, f1, f2⟩ := far_ok (gs := gs) (rs := rs) ns (cell ns 34) (cell_ge ns 34) (cell_lt ns 34) none p2 m1 m3
  obtain ⟨x9, h1⟩ := none_ok (gs := gs) (rs := rs) ns (cell ns 34) (cell_ge ns 34) none x8 f2 m1 m3
  obtain ⟨ds, d1, d2⟩ := five (gs := gs) (rs := rs) ns none (some (.int (cell ns 34))) x8 x9 f2 m1 m3
  obtain ⟨ρ', hl, es, y11, y12, y13, y14, rfl⟩ := for_inv (f := aName 11) (body := (gSeq (gClear 10)
    (gSeq (gExtend 10 (gVar 11))
    (gSeq (gSet 12 (gIf (gBl (gEq (gMod (gFdiv (gVar 7) (gC (.int 32))) (gC (.int 2))) (gC (.int 1)))) (gFnB 2 f_gained (gConsA (gVar 4) (gConsA (gVar 10) gNilA))) (gC .none)))
    (gSeq (gSet 13 (gFnB 2 f_meets (gConsA (gVar 4) (gConsA (gVar 10) gNilA))))
    (gSeq (gSet 14 (gFnB 2 f_gained (gConsA (gVar 4) (gConsA (gVar 10) gNilA))))
    (gSeq (gIfS (gBl (gNotIn (gVar 12) (gTup (gConsA (gC .none) (gConsA (gVar 14) gNilA))))) (gRet (gC (.bool false))) gNext)
    (gSeq (gIfS (gOrT (gNotT (gTru (gIsi "bool" (gVar 13)))) (gOrT (gNotT (gTru (gFn 1 f__law_whole (gConsA (gVar 14) gNilA)))) (gBl (gNe (gVar 10) (gVar 11))))) (gRet (gC (.bool false))) gNext)
    (gIfS (gOrT (gBl (gNe (gVar 13) (gFn 3 f__law_meets (gConsA (gVar 1) (gConsA (gVar 2) (gConsA (gVar 11) gNilA)))))) (gBl (gNe (gVar 14) (gFn 2 f__law_sum (gConsA (gVar 3) (gConsA (gVar 11) gNilA)))))) (gRet (gC (.bool false))) gNext))))))))) (ds := ds)
    (ρ := [some (scr ns), some (.list (ts.map PyData.int)), some (.list rs), some (.list (gs.map PyData.int)), some (pD ts gs rs), some (.list (ps1.map PyData.int)), none, some (.int (cell ns 34)), x8, x9, some (.list []), none, none, none, none])
    (fun _ ρ => ∃ (es : List PyData) (y11 y12 y13 y14 : Option PyData), ρ = [some (scr ns), some (.list (ts.map PyData.int)), some (.list rs), some (.list (gs.map PyData.int)), some (pD ts gs rs), some (.list (ps1.map PyData.int)), none, some (.int (cell ns 34)), x8, x9, some (.list es), y11, y12, y13, y14])
    ⟨[], none, none, none, none, rfl⟩ (fun i d ρ hd hi => by
      obtain ⟨es, y11, y12, y13, y14, rfl⟩ := hi
      obtain ⟨qs, rfl, q2⟩ := d2 d (List.mem_of_getElem? hd)
      obtain ⟨y, hy⟩ := body_ok (ts := ts) (gs := gs) (rs := rs) ns (ps := ps1) (cell ns 34) none x8 x9 (some (.list es)) y12 y13 y14 (ds := es) q2 m3 g2 g3 r2 r3
      exact ⟨_, _, rfl, hy, _, _, _, _, _, rfl⟩)
  have hfor : (gFor (aName 11) (gItA (gLst (gConsA (gVar 5) (gConsA (gMul (gLst (gConsA (gC (.int 0)) gNilA)) (gB bLen (gConsA (gVar 1) gNilA))) (gConsA (gListOf (gConsA (gVar 1) gNilA)) (gConsA (gAdd (gSl (gVar 5) gNoP (gPart (gNeg (gC (.int 1))))) (gLst (gConsA (gAdd (gIx (gVar 5) (gNeg (gC (.int 1)))) (gC (.int 1))) gNilA))) (gConsA (gVar 5) gNilA))))))) (gSeq (gClear 10)
    (gSeq (gExtend 10 (gVar 11))
    (gSeq (gSet 12 (gIf (gBl (gEq (gMod (gFdiv (gVar 7) (gC (.int 32))) (gC (.int 2))) (gC (.int 1)))) (gFnB 2 f_gained (gConsA (gVar 4) (gConsA (gVar 10) gNilA))) (gC .none)))
    (gSeq (gSet 13 (gFnB 2 f_meets (gConsA (gVar 4) (gConsA (gVar 10) gNilA))))
    (gSeq (gSet 14 (gFnB 2 f_gained (gConsA (gVar 4) (gConsA (gVar 10) gNilA))))
    (gSeq (gIfS (gBl (gNotIn (gVar 12) (gTup (gConsA (gC .none) (gConsA (gVar 14) gNilA))))) (gRet (gC (.bool false))) gNext)
    (gSeq (gIfS (gOrT (gNotT (gTru (gIsi "bool" (gVar 13)))) (gOrT (gNotT (gTru (gFn 1 f__law_whole (gConsA (gVar 14) gNilA)))) (gBl (gNe (gVar 10) (gVar 11))))) (gRet (gC (.bool false))) gNext)
    (gIfS (gOrT (gBl (gNe (gVar 13) (gFn 3 f__law_meets (gConsA (gVar 1) (gConsA (gVar 2) (gConsA (gVar 11) gNilA)))))) (gBl (gNe (gVar 14) (gFn 2 f__law_sum (gConsA (gVar 3) (gConsA (gVar 11) gNilA)))))) (gRet (gC (.bool false))) gNext))))))))) [some (scr ns), some (.list (ts.map PyData.int)), some (.list rs), some (.list (gs.map PyData.int)), some (pD ts gs rs), some (.list (ps1.map PyData.int)), none, some (.int (cell ns 34)), x8, x9, some (.list []), none, none, none, none] = .nx [some (scr ns), some (.list (ts.map PyData.int)), some (.list rs), some (.list (gs.map PyData.int)), some (pD ts gs rs), some (.list (ps1.map PyData.int)), none, some (.int (cell ns 34)), x8, x9, some (.list es), y11, y12, y13, y14] := by
    rw [gFor_ap, d1]
    exact hl
  have n1 := dEq_self (nice_list (ds := ts.map PyData.int) nice_mapI) (by decide)
  have n2 := dEq_self (nice_list (ds := rs) fun r hr => nice_row (r3 r hr)) (by decide)
  have n3 := dEq_self (nice_list (ds := gs.map PyData.int) nice_mapI) (by decide)
  have p0 : ∀ z : List (Option PyData), gFld "tops" 0 (gVar 4) (some (scr ns) :: some (.list (ts.map PyData.int)) :: some (.list rs) :: some (.list (gs.map PyData.int)) :: some (pD ts gs rs) :: z) = .ok (.list (ts.map PyData.int)) := fun _ => rfl
  have p3 : ∀ z : List (Option PyData), gFld "rows" 0 (gVar 4) (some (scr ns) :: some (.list (ts.map PyData.int)) :: some (.list rs) :: some (.list (gs.map PyData.int)) :: some (pD ts gs rs) :: z) = .ok (.list rs) := fun _ => rfl
  have p4 : ∀ z : List (Option PyData), gFld "gain" 0 (gVar 4) (some (scr ns) :: some (.list (ts.map PyData.int)) :: some (.list rs) :: some (.list (gs.map PyData.int)) :: some (pD ts gs rs) :: z) = .ok (.list (gs.map PyData.int)) := fun _ => rfl
  simp -implicitDefEqProofs [t1, r1, g1, mkp, p1, c34, f1, h1, hfor, n1, n2, n3, p0, p3, p4, outR, -gIfS_ap, -gFld_ap]
end K03

set_option Elab.async false
set_option linter.all false
set_option maxRecDepth 100000
namespace K03
open PySem PySem.Spec L2 Fn
theorem all_mk {P : Program} {w : World} {K : PySem.W.Frag} {h : Heap} {mg : Str → Option Value} {fa : Addr} (X : K.In h) (G : h.Ns mainGlobals mg) (hfa : mg "law" = some (.ref fa))
    {f0 : Addr} {od0 an0 : Option Addr} {sl0 : Array (Option Value)} {oc0 kV0 dc0 pm0 cd0 ct0 : Value}
    {f1 : Addr} {od1 an1 : Option Addr} {sl1 : Array (Option Value)} {oc1 kV1 dc1 pm1 cd1 ct1 : Value}
    {f2 : Addr} {od2 an2 : Option Addr} {sl2 : Array (Option Value)} {oc2 kV2 dc2 pm2 cd2 ct2 : Value}
    {f3 : Addr} {od3 an3 : Option Addr} {sl3 : Array (Option Value)} {oc3 kV3 dc3 pm3 cd3 ct3 : Value}
    {f4 : Addr} {od4 an4 : Option Addr} {sl4 : Array (Option Value)} {oc4 kV4 dc4 pm4 cd4 ct4 : Value}
    {f5 : Addr} {od5 an5 : Option Addr} {sl5 : Array (Option Value)} {oc5 kV5 dc5 pm5 cd5 ct5 : Value}
    {f6 : Addr} {od6 an6 : Option Addr} {sl6 : Array (Option Value)} {oc6 kV6 dc6 pm6 cd6 ct6 : Value}
    {f7 : Addr} {od7 an7 : Option Addr} {sl7 : Array (Option Value)} {oc7 kV7 dc7 pm7 cd7 ct7 : Value}
    {f8 : Addr} {od8 an8 : Option Addr} {sl8 : Array (Option Value)} {oc8 kV8 dc8 pm8 cd8 ct8 : Value}
    {f9 : Addr} {od9 an9 : Option Addr} {sl9 : Array (Option Value)} {oc9 kV9 dc9 pm9 cd9 ct9 : Value}
    {f10 : Addr} {od10 an10 : Option Addr} {sl10 : Array (Option Value)} {oc10 kV10 dc10 pm10 cd10 ct10 : Value}
    {f11 : Addr} {od11 an11 : Option Addr} {sl11 : Array (Option Value)} {oc11 kV11 dc11 pm11 cd11 ct11 : Value}
    {f12 : Addr} {od12 an12 : Option Addr} {sl12 : Array (Option Value)} {oc12 kV12 dc12 pm12 cd12 ct12 : Value}
    {f13 : Addr} {od13 an13 : Option Addr} {sl13 : Array (Option Value)} {oc13 kV13 dc13 pm13 cd13 ct13 : Value}
    {f14 : Addr} {od14 an14 : Option Addr} {sl14 : Array (Option Value)} {oc14 kV14 dc14 pm14 cd14 ct14 : Value}
    {f15 : Addr} {od15 an15 : Option Addr} {sl15 : Array (Option Value)} {oc15 kV15 dc15 pm15 cd15 ct15 : Value}
    {f16 : Addr} {od16 an16 : Option Addr} {sl16 : Array (Option Value)} {oc16 kV16 dc16 pm16 cd16 ct16 : Value}
    {f17 : Addr} {od17 an17 : Option Addr} {sl17 : Array (Option Value)} {oc17 kV17 dc17 pm17 cd17 ct17 : Value}
    {f18 : Addr} {od18 an18 : Option Addr} {sl18 : Array (Option Value)} {oc18 kV18 dc18 pm18 cd18 ct18 : Value}
    {f19 : Addr} {od19 an19 : Option Addr} {sl19 : Array (Option Value)} {oc19 kV19 dc19 pm19 cd19 ct19 : Value}
    {f20 : Addr} {od20 an20 : Option Addr} {sl20 : Array (Option Value)} {oc20 kV20 dc20 pm20 cd20 ct20 : Value}
    {f21 : Addr} {od21 an21 : Option Addr} {sl21 : Array (Option Value)} {oc21 kV21 dc21 pm21 cd21 ct21 : Value}
    {f22 : Addr} {od22 an22 : Option Addr} {sl22 : Array (Option Value)} {oc22 kV22 dc22 pm22 cd22 ct22 : Value}
    {f23 : Addr} {od23 an23 : Option Addr} {sl23 : Array (Option Value)} {oc23 kV23 dc23 pm23 cd23 ct23 : Value}
    {f24 : Addr} {od24 an24 : Option Addr} {sl24 : Array (Option Value)} {oc24 kV24 dc24 pm24 cd24 ct24 : Value}
    {f25 : Addr} {od25 an25 : Option Addr} {sl25 : Array (Option Value)} {oc25 kV25 dc25 pm25 cd25 ct25 : Value}
    {f26 : Addr} {od26 an26 : Option Addr} {sl26 : Array (Option Value)} {oc26 kV26 dc26 pm26 cd26 ct26 : Value}
    {f27 : Addr} {od27 an27 : Option Addr} {sl27 : Array (Option Value)} {oc27 kV27 dc27 pm27 cd27 ct27 : Value}
    {f28 : Addr} {od28 an28 : Option Addr} {sl28 : Array (Option Value)} {oc28 kV28 dc28 pm28 cd28 ct28 : Value}
    {C fI : Addr} {odI anI : Option Addr} {slI : Array (Option Value)} {ocI kVI dcI pmI cdI ctI : Value}
    {x0 : Addr}
    {x1 : Addr}
    {x2 : Addr}
    {x3 : Addr}
    {x4 : Addr}
    {x5 : Addr}
    {x6 : Addr}
    {t_MOST_UNKNOWNS : _}
    {t_GREATEST_TOP : _}
    {t_MOST_ROWS : _}
    {t_GREATEST_NUMBER : _}
    {t_GREATEST_BOUND : _}
    (a0 : PySem.W.nsIn K mainGlobals "is_whole" = some (some (.ref f0)))
    (l0 : K.lookup f0 = some ⟨oc0, od0, .func (PySem.W.fnOf "is_whole" "is_whole" (defArgs (topS 9)) (defBody (topS 9)) (defScope (topS 9)) .none kV0 dc0 pm0 an0 cd0 ct0), sl0⟩)
    (c0 : PySem.W.codeIn K cd0 "is_whole" = true)
    (k0 : PySem.W.keepIn K (.ref f0) = true)
    (a1 : PySem.W.nsIn K mainGlobals "is_within" = some (some (.ref f1)))
    (l1 : K.lookup f1 = some ⟨oc1, od1, .func (PySem.W.fnOf "is_within" "is_within" (defArgs (topS 10)) (defBody (topS 10)) (defScope (topS 10)) .none kV1 dc1 pm1 an1 cd1 ct1), sl1⟩)
    (c1 : PySem.W.codeIn K cd1 "is_within" = true)
    (k1 : PySem.W.keepIn K (.ref f1) = true)
    (a2 : PySem.W.nsIn K mainGlobals "are_within" = some (some (.ref f2)))
    (l2 : K.lookup f2 = some ⟨oc2, od2, .func (PySem.W.fnOf "are_within" "are_within" (defArgs (topS 11)) (defBody (topS 11)) (defScope (topS 11)) .none kV2 dc2 pm2 an2 cd2 ct2), sl2⟩)
    (c2 : PySem.W.codeIn K cd2 "are_within" = true)
    (k2 : PySem.W.keepIn K (.ref f2) = true)
    (a3 : PySem.W.nsIn K mainGlobals "products_sum" = some (some (.ref f3)))
    (l3 : K.lookup f3 = some ⟨oc3, od3, .func (PySem.W.fnOf "products_sum" "products_sum" (defArgs (topS 12)) (defBody (topS 12)) (defScope (topS 12)) .none kV3 dc3 pm3 an3 cd3 ct3), sl3⟩)
    (c3 : PySem.W.codeIn K cd3 "products_sum" = true)
    (k3 : PySem.W.keepIn K (.ref f3) = true)
    (a4 : PySem.W.nsIn K mainGlobals "is_problem" = some (some (.ref f4)))
    (l4 : K.lookup f4 = some ⟨oc4, od4, .func (PySem.W.fnOf "is_problem" "is_problem" (defArgs (topS 20)) (defBody (topS 20)) (defScope (topS 20)) .none kV4 dc4 pm4 an4 cd4 ct4), sl4⟩)
    (c4 : PySem.W.codeIn K cd4 "is_problem" = true)
    (k4 : PySem.W.keepIn K (.ref f4) = true)
    (a5 : PySem.W.nsIn K mainGlobals "are_tops" = some (some (.ref f5)))
    (l5 : K.lookup f5 = some ⟨oc5, od5, .func (PySem.W.fnOf "are_tops" "are_tops" (defArgs (topS 21)) (defBody (topS 21)) (defScope (topS 21)) .none kV5 dc5 pm5 an5 cd5 ct5), sl5⟩)
    (c5 : PySem.W.codeIn K cd5 "are_tops" = true)
    (k5 : PySem.W.keepIn K (.ref f5) = true)
    (a6 : PySem.W.nsIn K mainGlobals "are_rows" = some (some (.ref f6)))
    (l6 : K.lookup f6 = some ⟨oc6, od6, .func (PySem.W.fnOf "are_rows" "are_rows" (defArgs (topS 22)) (defBody (topS 22)) (defScope (topS 22)) .none kV6 dc6 pm6 an6 cd6 ct6), sl6⟩)
    (c6 : PySem.W.codeIn K cd6 "are_rows" = true)
    (k6 : PySem.W.keepIn K (.ref f6) = true)
    (a7 : PySem.W.nsIn K mainGlobals "is_row" = some (some (.ref f7)))
    (l7 : K.lookup f7 = some ⟨oc7, od7, .func (PySem.W.fnOf "is_row" "is_row" (defArgs (topS 23)) (defBody (topS 23)) (defScope (topS 23)) .none kV7 dc7 pm7 an7 cd7 ct7), sl7⟩)
    (c7 : PySem.W.codeIn K cd7 "is_row" = true)
    (k7 : PySem.W.keepIn K (.ref f7) = true)
    (a8 : PySem.W.nsIn K mainGlobals "is_word" = some (some (.ref f8)))
    (l8 : K.lookup f8 = some ⟨oc8, od8, .func (PySem.W.fnOf "is_word" "is_word" (defArgs (topS 24)) (defBody (topS 24)) (defScope (topS 24)) .none kV8 dc8 pm8 an8 cd8 ct8), sl8⟩)
    (c8 : PySem.W.codeIn K cd8 "is_word" = true)
    (k8 : PySem.W.keepIn K (.ref f8) = true)
    (a9 : PySem.W.nsIn K mainGlobals "is_gain" = some (some (.ref f9)))
    (l9 : K.lookup f9 = some ⟨oc9, od9, .func (PySem.W.fnOf "is_gain" "is_gain" (defArgs (topS 25)) (defBody (topS 25)) (defScope (topS 25)) .none kV9 dc9 pm9 an9 cd9 ct9), sl9⟩)
    (c9 : PySem.W.codeIn K cd9 "is_gain" = true)
    (k9 : PySem.W.keepIn K (.ref f9) = true)
    (a10 : PySem.W.nsIn K mainGlobals "are_numbers" = some (some (.ref f10)))
    (l10 : K.lookup f10 = some ⟨oc10, od10, .func (PySem.W.fnOf "are_numbers" "are_numbers" (defArgs (topS 26)) (defBody (topS 26)) (defScope (topS 26)) .none kV10 dc10 pm10 an10 cd10 ct10), sl10⟩)
    (c10 : PySem.W.codeIn K cd10 "are_numbers" = true)
    (k10 : PySem.W.keepIn K (.ref f10) = true)
    (a11 : PySem.W.nsIn K mainGlobals "is_point" = some (some (.ref f11)))
    (l11 : K.lookup f11 = some ⟨oc11, od11, .func (PySem.W.fnOf "is_point" "is_point" (defArgs (topS 27)) (defBody (topS 27)) (defScope (topS 27)) .none kV11 dc11 pm11 an11 cd11 ct11), sl11⟩)
    (c11 : PySem.W.codeIn K cd11 "is_point" = true)
    (k11 : PySem.W.keepIn K (.ref f11) = true)
    (a12 : PySem.W.nsIn K mainGlobals "check_point" = some (some (.ref f12)))
    (l12 : K.lookup f12 = some ⟨oc12, od12, .func (PySem.W.fnOf "check_point" "check_point" (defArgs (topS 28)) (defBody (topS 28)) (defScope (topS 28)) .none kV12 dc12 pm12 an12 cd12 ct12), sl12⟩)
    (c12 : PySem.W.codeIn K cd12 "check_point" = true)
    (k12 : PySem.W.keepIn K (.ref f12) = true)
    (a13 : PySem.W.nsIn K mainGlobals "meets" = some (some (.ref f13)))
    (l13 : K.lookup f13 = some ⟨oc13, od13, .func (PySem.W.fnOf "meets" "meets" (defArgs (topS 29)) (defBody (topS 29)) (defScope (topS 29)) .none kV13 dc13 pm13 an13 cd13 ct13), sl13⟩)
    (c13 : PySem.W.codeIn K cd13 "meets" = true)
    (k13 : PySem.W.keepIn K (.ref f13) = true)
    (a14 : PySem.W.nsIn K mainGlobals "holds" = some (some (.ref f14)))
    (l14 : K.lookup f14 = some ⟨oc14, od14, .func (PySem.W.fnOf "holds" "holds" (defArgs (topS 30)) (defBody (topS 30)) (defScope (topS 30)) .none kV14 dc14 pm14 an14 cd14 ct14), sl14⟩)
    (c14 : PySem.W.codeIn K cd14 "holds" = true)
    (k14 : PySem.W.keepIn K (.ref f14) = true)
    (a15 : PySem.W.nsIn K mainGlobals "gained" = some (some (.ref f15)))
    (l15 : K.lookup f15 = some ⟨oc15, od15, .func (PySem.W.fnOf "gained" "gained" (defArgs (topS 31)) (defBody (topS 31)) (defScope (topS 31)) .none kV15 dc15 pm15 an15 cd15 ct15), sl15⟩)
    (c15 : PySem.W.codeIn K cd15 "gained" = true)
    (k15 : PySem.W.keepIn K (.ref f15) = true)
    (a16 : PySem.W.nsIn K mainGlobals "_law_cell_at" = some (some (.ref f16)))
    (l16 : K.lookup f16 = some ⟨oc16, od16, .func (PySem.W.fnOf "_law_cell_at" "_law_cell_at" (defArgs (topS 33)) (defBody (topS 33)) (defScope (topS 33)) .none kV16 dc16 pm16 an16 cd16 ct16), sl16⟩)
    (c16 : PySem.W.codeIn K cd16 "_law_cell_at" = true)
    (k16 : PySem.W.keepIn K (.ref f16) = true)
    (a17 : PySem.W.nsIn K mainGlobals "_law_whole" = some (some (.ref f17)))
    (l17 : K.lookup f17 = some ⟨oc17, od17, .func (PySem.W.fnOf "_law_whole" "_law_whole" (defArgs (topS 34)) (defBody (topS 34)) (defScope (topS 34)) .none kV17 dc17 pm17 an17 cd17 ct17), sl17⟩)
    (c17 : PySem.W.codeIn K cd17 "_law_whole" = true)
    (k17 : PySem.W.keepIn K (.ref f17) = true)
    (a18 : PySem.W.nsIn K mainGlobals "_law_number" = some (some (.ref f18)))
    (l18 : K.lookup f18 = some ⟨oc18, od18, .func (PySem.W.fnOf "_law_number" "_law_number" (defArgs (topS 35)) (defBody (topS 35)) (defScope (topS 35)) .none kV18 dc18 pm18 an18 cd18 ct18), sl18⟩)
    (c18 : PySem.W.codeIn K cd18 "_law_number" = true)
    (k18 : PySem.W.keepIn K (.ref f18) = true)
    (a19 : PySem.W.nsIn K mainGlobals "_law_bound" = some (some (.ref f19)))
    (l19 : K.lookup f19 = some ⟨oc19, od19, .func (PySem.W.fnOf "_law_bound" "_law_bound" (defArgs (topS 36)) (defBody (topS 36)) (defScope (topS 36)) .none kV19 dc19 pm19 an19 cd19 ct19), sl19⟩)
    (c19 : PySem.W.codeIn K cd19 "_law_bound" = true)
    (k19 : PySem.W.keepIn K (.ref f19) = true)
    (a20 : PySem.W.nsIn K mainGlobals "_law_tops" = some (some (.ref f20)))
    (l20 : K.lookup f20 = some ⟨oc20, od20, .func (PySem.W.fnOf "_law_tops" "_law_tops" (defArgs (topS 37)) (defBody (topS 37)) (defScope (topS 37)) .none kV20 dc20 pm20 an20 cd20 ct20), sl20⟩)
    (c20 : PySem.W.codeIn K cd20 "_law_tops" = true)
    (k20 : PySem.W.keepIn K (.ref f20) = true)
    (a21 : PySem.W.nsIn K mainGlobals "_law_kind" = some (some (.ref f21)))
    (l21 : K.lookup f21 = some ⟨oc21, od21, .func (PySem.W.fnOf "_law_kind" "_law_kind" (defArgs (topS 38)) (defBody (topS 38)) (defScope (topS 38)) .none kV21 dc21 pm21 an21 cd21 ct21), sl21⟩)
    (c21 : PySem.W.codeIn K cd21 "_law_kind" = true)
    (k21 : PySem.W.keepIn K (.ref f21) = true)
    (a22 : PySem.W.nsIn K mainGlobals "_law_gain" = some (some (.ref f22)))
    (l22 : K.lookup f22 = some ⟨oc22, od22, .func (PySem.W.fnOf "_law_gain" "_law_gain" (defArgs (topS 39)) (defBody (topS 39)) (defScope (topS 39)) .none kV22 dc22 pm22 an22 cd22 ct22), sl22⟩)
    (c22 : PySem.W.codeIn K cd22 "_law_gain" = true)
    (k22 : PySem.W.keepIn K (.ref f22) = true)
    (a23 : PySem.W.nsIn K mainGlobals "_law_rows" = some (some (.ref f23)))
    (l23 : K.lookup f23 = some ⟨oc23, od23, .func (PySem.W.fnOf "_law_rows" "_law_rows" (defArgs (topS 40)) (defBody (topS 40)) (defScope (topS 40)) .none kV23 dc23 pm23 an23 cd23 ct23), sl23⟩)
    (c23 : PySem.W.codeIn K cd23 "_law_rows" = true)
    (k23 : PySem.W.keepIn K (.ref f23) = true)
    (a24 : PySem.W.nsIn K mainGlobals "_law_sum" = some (some (.ref f24)))
    (l24 : K.lookup f24 = some ⟨oc24, od24, .func (PySem.W.fnOf "_law_sum" "_law_sum" (defArgs (topS 41)) (defBody (topS 41)) (defScope (topS 41)) .none kV24 dc24 pm24 an24 cd24 ct24), sl24⟩)
    (c24 : PySem.W.codeIn K cd24 "_law_sum" = true)
    (k24 : PySem.W.keepIn K (.ref f24) = true)
    (a25 : PySem.W.nsIn K mainGlobals "_law_meets" = some (some (.ref f25)))
    (l25 : K.lookup f25 = some ⟨oc25, od25, .func (PySem.W.fnOf "_law_meets" "_law_meets" (defArgs (topS 42)) (defBody (topS 42)) (defScope (topS 42)) .none kV25 dc25 pm25 an25 cd25 ct25), sl25⟩)
    (c25 : PySem.W.codeIn K cd25 "_law_meets" = true)
    (k25 : PySem.W.keepIn K (.ref f25) = true)
    (a26 : PySem.W.nsIn K mainGlobals "_law_refused" = some (some (.ref f26)))
    (l26 : K.lookup f26 = some ⟨oc26, od26, .func (PySem.W.fnOf "_law_refused" "_law_refused" (defArgs (topS 43)) (defBody (topS 43)) (defScope (topS 43)) .none kV26 dc26 pm26 an26 cd26 ct26), sl26⟩)
    (c26 : PySem.W.codeIn K cd26 "_law_refused" = true)
    (k26 : PySem.W.keepIn K (.ref f26) = true)
    (a27 : PySem.W.nsIn K mainGlobals "_law_no_point" = some (some (.ref f27)))
    (l27 : K.lookup f27 = some ⟨oc27, od27, .func (PySem.W.fnOf "_law_no_point" "_law_no_point" (defArgs (topS 44)) (defBody (topS 44)) (defScope (topS 44)) .none kV27 dc27 pm27 an27 cd27 ct27), sl27⟩)
    (c27 : PySem.W.codeIn K cd27 "_law_no_point" = true)
    (k27 : PySem.W.keepIn K (.ref f27) = true)
    (a28 : PySem.W.nsIn K mainGlobals "law" = some (some (.ref f28)))
    (l28 : K.lookup f28 = some ⟨oc28, od28, .func (PySem.W.fnOf "law" "law" (defArgs (topS 45)) (defBody (topS 45)) (defScope (topS 45)) .none kV28 dc28 pm28 an28 cd28 ct28), sl28⟩)
    (c28 : PySem.W.codeIn K cd28 "law" = true)
    (k28 : PySem.W.keepIn K (.ref f28) = true)
    (aC : PySem.W.nsIn K mainGlobals "Problem" = some (some (.ref C)))
    (aI : PySem.W.findIn K (.ref C) "__init__" = some (some (.ref fI)))
    (iI : PySem.W.isFn K (.ref fI) = true)
    (lI : K.lookup fI = some ⟨ocI, odI, .func (PySem.W.fnOf "__init__" "Problem.__init__" (defArgs st_init) (defBody st_init) (defScope st_init) .none kVI dcI pmI anI cdI ctI), slI⟩)
    (cI : PySem.W.codeIn K cdI "Problem.__init__" = true)
    (kI : PySem.W.keepIn K (.ref fI) = true)
    (pg : PySem.W.plainGet K C Str.empty = true)
    (hd : PySem.W.hasDictIn K C = true)
    (po : PySem.W.plainOver K C = true)
    (sa : PySem.W.findIn K (.ref C) "__setattr__" = some (some (.builtin "object.__setattr__")))
    (mkC : PySem.W.makesIn K C = true)
    (kC : PySem.W.keepIn K (.ref C) = true)
    (na_tops : PySem.W.findIn K (.ref C) "tops" = some none)
    (na_rows : PySem.W.findIn K (.ref C) "rows" = some none)
    (na_gain : PySem.W.findIn K (.ref C) "gain" = some none)
    (xg0 : PySem.W.nsIn K mainGlobals "CutError" = some (some (.ref x0)))
    (xk0 : PySem.W.keepIn K (.ref x0) = true)
    (xx0 : PySem.W.excIn K x0 [.type "ValueError", .type "Exception", .type "BaseException", .type "object"] "ValueError.__new__" = true)
    (xb0 : PySem.W.subIn K (.ref x0) (.type "BaseException") = some true)
    (xt0 : PySem.W.typeIn K (.ref x0) = some (.type "type"))
    (xg1 : PySem.W.nsIn K mainGlobals "BadProblem" = some (some (.ref x1)))
    (xk1 : PySem.W.keepIn K (.ref x1) = true)
    (xx1 : PySem.W.excIn K x1 [.type "ValueError", .type "Exception", .type "BaseException", .type "object"] "ValueError.__new__" = true)
    (xb1 : PySem.W.subIn K (.ref x1) (.type "BaseException") = some true)
    (xt1 : PySem.W.typeIn K (.ref x1) = some (.type "type"))
    (xg2 : PySem.W.nsIn K mainGlobals "BadPoint" = some (some (.ref x2)))
    (xk2 : PySem.W.keepIn K (.ref x2) = true)
    (xx2 : PySem.W.excIn K x2 [.type "ValueError", .type "Exception", .type "BaseException", .type "object"] "ValueError.__new__" = true)
    (xb2 : PySem.W.subIn K (.ref x2) (.type "BaseException") = some true)
    (xt2 : PySem.W.typeIn K (.ref x2) = some (.type "type"))
    (xg3 : PySem.W.nsIn K mainGlobals "BadBox" = some (some (.ref x3)))
    (xk3 : PySem.W.keepIn K (.ref x3) = true)
    (xx3 : PySem.W.excIn K x3 [.type "ValueError", .type "Exception", .type "BaseException", .type "object"] "ValueError.__new__" = true)
    (xb3 : PySem.W.subIn K (.ref x3) (.type "BaseException") = some true)
    (xt3 : PySem.W.typeIn K (.ref x3) = some (.type "type"))
    (xg4 : PySem.W.nsIn K mainGlobals "BadWeights" = some (some (.ref x4)))
    (xk4 : PySem.W.keepIn K (.ref x4) = true)
    (xx4 : PySem.W.excIn K x4 [.type "ValueError", .type "Exception", .type "BaseException", .type "object"] "ValueError.__new__" = true)
    (xb4 : PySem.W.subIn K (.ref x4) (.type "BaseException") = some true)
    (xt4 : PySem.W.typeIn K (.ref x4) = some (.type "type"))
    (xg5 : PySem.W.nsIn K mainGlobals "NoTurn" = some (some (.ref x5)))
    (xk5 : PySem.W.keepIn K (.ref x5) = true)
    (xx5 : PySem.W.excIn K x5 [.type "ValueError", .type "Exception", .type "BaseException", .type "object"] "ValueError.__new__" = true)
    (xb5 : PySem.W.subIn K (.ref x5) (.type "BaseException") = some true)
    (xt5 : PySem.W.typeIn K (.ref x5) = some (.type "type"))
    (xg6 : PySem.W.nsIn K mainGlobals "BadText" = some (some (.ref x6)))
    (xk6 : PySem.W.keepIn K (.ref x6) = true)
    (xx6 : PySem.W.excIn K x6 [.type "ValueError", .type "Exception", .type "BaseException", .type "object"] "ValueError.__new__" = true)
    (xb6 : PySem.W.subIn K (.ref x6) (.type "BaseException") = some true)
    (xt6 : PySem.W.typeIn K (.ref x6) = some (.type "type"))
    (i_MOST_UNKNOWNS : PySem.W.nsIn K mainGlobals "MOST_UNKNOWNS" = some (some (.int (3) t_MOST_UNKNOWNS)))
    (i_GREATEST_TOP : PySem.W.nsIn K mainGlobals "GREATEST_TOP" = some (some (.int (20) t_GREATEST_TOP)))
    (i_MOST_ROWS : PySem.W.nsIn K mainGlobals "MOST_ROWS" = some (some (.int (6) t_MOST_ROWS)))
    (i_GREATEST_NUMBER : PySem.W.nsIn K mainGlobals "GREATEST_NUMBER" = some (some (.int (50) t_GREATEST_NUMBER)))
    (i_GREATEST_BOUND : PySem.W.nsIn K mainGlobals "GREATEST_BOUND" = some (some (.int (2000) t_GREATEST_BOUND)))
    (n_all : PySem.W.nsIn K mainGlobals "all" = some none)
    (n_bool : PySem.W.nsIn K mainGlobals "bool" = some none)
    (n_int : PySem.W.nsIn K mainGlobals "int" = some none)
    (n_isinstance : PySem.W.nsIn K mainGlobals "isinstance" = some none)
    (n_len : PySem.W.nsIn K mainGlobals "len" = some none)
    (n_list : PySem.W.nsIn K mainGlobals "list" = some none)
    (n_min : PySem.W.nsIn K mainGlobals "min" = some none)
    (n_range : PySem.W.nsIn K mainGlobals "range" = some none)
    (n_str : PySem.W.nsIn K mainGlobals "str" = some none)
    (n_sum : PySem.W.nsIn K mainGlobals "sum" = some none)
    (n_tuple : PySem.W.nsIn K mainGlobals "tuple" = some none)
    (n_zip : PySem.W.nsIn K mainGlobals "zip" = some none)
    (r_hn : PySem.W.specialIn K (.builtin "object.__class__") "__get__" = some (some (.builtin "getset_descriptor.__get__")))
    (r_ht : PySem.W.takesIn K (.builtin "object.__class__") = some true)
    (r_nV : PySem.W.nsIn K mainGlobals "ValueError" = some none)
    (r_i0 : PySem.W.isClsIn K x0 = true)
    (r_i1 : PySem.W.isClsIn K x1 = true)
    (r_i2 : PySem.W.isClsIn K x2 = true)
    (r_i3 : PySem.W.isClsIn K x3 = true)
    (r_i4 : PySem.W.isClsIn K x4 = true)
    (r_i5 : PySem.W.isClsIn K x5 = true)
    (r_i6 : PySem.W.isClsIn K x6 = true)
    (r2_hg : PySem.W.findIn K (.ref x2) "__getattribute__" = some (some (.builtin "BaseException.__getattribute__")))
    (r2_hk : PySem.W.findIn K (.ref x2) "__getattr__" = some none)
    (r2_hd : PySem.W.hasDictIn K x2 = true)
    (r2_ha : PySem.W.findIn K (.ref x2) "__class__" = some (some (.builtin "object.__class__")))
    (r2_hm : PySem.W.mroIn K x2 (.type "object") = some true)
    (r2_s : PySem.W.subIn K (.ref x2) (.ref x2) = some true)
    (r2_kV : PySem.W.subIn K (.ref x2) (.type "ValueError") = some true)
    (r2_k0 : PySem.W.subIn K (.ref x2) (.ref x0) = some true)
    (r2_k1 : PySem.W.subIn K (.ref x2) (.ref x1) = some false)
    (r2_k3 : PySem.W.subIn K (.ref x2) (.ref x3) = some false)
    (r2_k4 : PySem.W.subIn K (.ref x2) (.ref x4) = some false)
    (r2_k5 : PySem.W.subIn K (.ref x2) (.ref x5) = some false)
    (r2_k6 : PySem.W.subIn K (.ref x2) (.ref x6) = some false) :
    ∃ fd : FuncData, (∀ (s : Shared) (v : Value), BindsTo s fd ⟨[v], []⟩ [("_law_script", v)]) ∧ ∀ base : Heap, K.In base → base.Ns mainGlobals mg → FnOk P w K mg base (L2.CX P w) 13 fa fd ["_law_script"] (spLaw K) := by
  have e := hfa.symm.trans (PySem.W.mg_of X G a28)
  cases e
  have D0 : DefAt K mg "is_whole" (topS 9) ["thing"] := by
    have F := fun_mk (st := topS 9) l0 c0 k0
    exact ⟨_, _, F, PySem.W.mg_of X G a0, F.binds fun _ _ _ _ _ _ us hl => match us, hl with | [_], _ => rfl⟩
  have D1 : DefAt K mg "is_within" (topS 10) ["thing", "least", "greatest"] := by
    have F := fun_mk (st := topS 10) l1 c1 k1
    exact ⟨_, _, F, PySem.W.mg_of X G a1, F.binds fun _ _ _ _ _ _ us hl => match us, hl with | [_, _, _], _ => rfl⟩
  have D2 : DefAt K mg "are_within" (topS 11) ["things", "least", "greatest"] := by
    have F := fun_mk (st := topS 11) l2 c2 k2
    exact ⟨_, _, F, PySem.W.mg_of X G a2, F.binds fun _ _ _ _ _ _ us hl => match us, hl with | [_, _, _], _ => rfl⟩
  have D3 : DefAt K mg "products_sum" (topS 12) ["numbers", "others"] := by
    have F := fun_mk (st := topS 12) l3 c3 k3
    exact ⟨_, _, F, PySem.W.mg_of X G a3, F.binds fun _ _ _ _ _ _ us hl => match us, hl with | [_, _], _ => rfl⟩
  have D4 : DefAt K mg "is_problem" (topS 20) ["tops", "rows", "gain"] := by
    have F := fun_mk (st := topS 20) l4 c4 k4
    exact ⟨_, _, F, PySem.W.mg_of X G a4, F.binds fun _ _ _ _ _ _ us hl => match us, hl with | [_, _, _], _ => rfl⟩
  have D5 : DefAt K mg "are_tops" (topS 21) ["tops"] := by
    have F := fun_mk (st := topS 21) l5 c5 k5
    exact ⟨_, _, F, PySem.W.mg_of X G a5, F.binds fun _ _ _ _ _ _ us hl => match us, hl with | [_], _ => rfl⟩
  have D6 : DefAt K mg "are_rows" (topS 22) ["rows", "unknowns"] := by
    have F := fun_mk (st := topS 22) l6 c6 k6
    exact ⟨_, _, F, PySem.W.mg_of X G a6, F.binds fun _ _ _ _ _ _ us hl => match us, hl with | [_, _], _ => rfl⟩
  have D7 : DefAt K mg "is_row" (topS 23) ["row", "unknowns"] := by
    have F := fun_mk (st := topS 23) l7 c7 k7
    exact ⟨_, _, F, PySem.W.mg_of X G a7, F.binds fun _ _ _ _ _ _ us hl => match us, hl with | [_, _], _ => rfl⟩
  have D8 : DefAt K mg "is_word" (topS 24) ["word"] := by
    have F := fun_mk (st := topS 24) l8 c8 k8
    exact ⟨_, _, F, PySem.W.mg_of X G a8, F.binds fun _ _ _ _ _ _ us hl => match us, hl with | [_], _ => rfl⟩
  have D9 : DefAt K mg "is_gain" (topS 25) ["gain", "unknowns"] := by
    have F := fun_mk (st := topS 25) l9 c9 k9
    exact ⟨_, _, F, PySem.W.mg_of X G a9, F.binds fun _ _ _ _ _ _ us hl => match us, hl with | [_, _], _ => rfl⟩
  have D10 : DefAt K mg "are_numbers" (topS 26) ["numbers", "unknowns"] := by
    have F := fun_mk (st := topS 26) l10 c10 k10
    exact ⟨_, _, F, PySem.W.mg_of X G a10, F.binds fun _ _ _ _ _ _ us hl => match us, hl with | [_, _], _ => rfl⟩
  have D11 : DefAt K mg "is_point" (topS 27) ["problem", "point"] := by
    have F := fun_mk (st := topS 27) l11 c11 k11
    exact ⟨_, _, F, PySem.W.mg_of X G a11, F.binds fun _ _ _ _ _ _ us hl => match us, hl with | [_, _], _ => rfl⟩
  have D12 : DefAt K mg "check_point" (topS 28) ["problem", "point"] := by
    have F := fun_mk (st := topS 28) l12 c12 k12
    exact ⟨_, _, F, PySem.W.mg_of X G a12, F.binds fun _ _ _ _ _ _ us hl => match us, hl with | [_, _], _ => rfl⟩
  have D13 : DefAt K mg "meets" (topS 29) ["problem", "point"] := by
    have F := fun_mk (st := topS 29) l13 c13 k13
    exact ⟨_, _, F, PySem.W.mg_of X G a13, F.binds fun _ _ _ _ _ _ us hl => match us, hl with | [_, _], _ => rfl⟩
  have D14 : DefAt K mg "holds" (topS 30) ["row", "point"] := by
    have F := fun_mk (st := topS 30) l14 c14 k14
    exact ⟨_, _, F, PySem.W.mg_of X G a14, F.binds fun _ _ _ _ _ _ us hl => match us, hl with | [_, _], _ => rfl⟩
  have D15 : DefAt K mg "gained" (topS 31) ["problem", "point"] := by
    have F := fun_mk (st := topS 31) l15 c15 k15
    exact ⟨_, _, F, PySem.W.mg_of X G a15, F.binds fun _ _ _ _ _ _ us hl => match us, hl with | [_, _], _ => rfl⟩
  have D16 : DefAt K mg "_law_cell_at" (topS 33) ["_law_script", "_law_k"] := by
    have F := fun_mk (st := topS 33) l16 c16 k16
    exact ⟨_, _, F, PySem.W.mg_of X G a16, F.binds fun _ _ _ _ _ _ us hl => match us, hl with | [_, _], _ => rfl⟩
  have D17 : DefAt K mg "_law_whole" (topS 34) ["_law_found"] := by
    have F := fun_mk (st := topS 34) l17 c17 k17
    exact ⟨_, _, F, PySem.W.mg_of X G a17, F.binds fun _ _ _ _ _ _ us hl => match us, hl with | [_], _ => rfl⟩
  have D18 : DefAt K mg "_law_number" (topS 35) ["_law_cell", "_law_kind_here"] := by
    have F := fun_mk (st := topS 35) l18 c18 k18
    exact ⟨_, _, F, PySem.W.mg_of X G a18, F.binds fun _ _ _ _ _ _ us hl => match us, hl with | [_, _], _ => rfl⟩
  have D19 : DefAt K mg "_law_bound" (topS 36) ["_law_cell", "_law_kind_here"] := by
    have F := fun_mk (st := topS 36) l19 c19 k19
    exact ⟨_, _, F, PySem.W.mg_of X G a19, F.binds fun _ _ _ _ _ _ us hl => match us, hl with | [_, _], _ => rfl⟩
  have D20 : DefAt K mg "_law_tops" (topS 37) ["_law_script"] := by
    have F := fun_mk (st := topS 37) l20 c20 k20
    exact ⟨_, _, F, PySem.W.mg_of X G a20, F.binds fun _ _ _ _ _ _ us hl => match us, hl with | [_], _ => rfl⟩
  have D21 : DefAt K mg "_law_kind" (topS 38) ["_law_script"] := by
    have F := fun_mk (st := topS 38) l21 c21 k21
    exact ⟨_, _, F, PySem.W.mg_of X G a21, F.binds fun _ _ _ _ _ _ us hl => match us, hl with | [_], _ => rfl⟩
  have D22 : DefAt K mg "_law_gain" (topS 39) ["_law_script"] := by
    have F := fun_mk (st := topS 39) l22 c22 k22
    exact ⟨_, _, F, PySem.W.mg_of X G a22, F.binds fun _ _ _ _ _ _ us hl => match us, hl with | [_], _ => rfl⟩
  have D23 : DefAt K mg "_law_rows" (topS 40) ["_law_script"] := by
    have F := fun_mk (st := topS 40) l23 c23 k23
    exact ⟨_, _, F, PySem.W.mg_of X G a23, F.binds fun _ _ _ _ _ _ us hl => match us, hl with | [_], _ => rfl⟩
  have D24 : DefAt K mg "_law_sum" (topS 41) ["_law_numbers", "_law_point"] := by
    have F := fun_mk (st := topS 41) l24 c24 k24
    exact ⟨_, _, F, PySem.W.mg_of X G a24, F.binds fun _ _ _ _ _ _ us hl => match us, hl with | [_, _], _ => rfl⟩
  have D25 : DefAt K mg "_law_meets" (topS 42) ["_law_tops_here", "_law_rows_here", "_law_point"] := by
    have F := fun_mk (st := topS 42) l25 c25 k25
    exact ⟨_, _, F, PySem.W.mg_of X G a25, F.binds fun _ _ _ _ _ _ us hl => match us, hl with | [_, _, _], _ => rfl⟩
  have D26 : DefAt K mg "_law_refused" (topS 43) ["_law_problem", "_law_point", "_law_by_gain"] := by
    have F := fun_mk (st := topS 43) l26 c26 k26
    exact ⟨_, _, F, PySem.W.mg_of X G a26, F.binds fun _ _ _ _ _ _ us hl => match us, hl with | [_, _, _], _ => rfl⟩
  have D27 : DefAt K mg "_law_no_point" (topS 44) ["_law_point", "_law_cell"] := by
    have F := fun_mk (st := topS 44) l27 c27 k27
    exact ⟨_, _, F, PySem.W.mg_of X G a27, F.binds fun _ _ _ _ _ _ us hl => match us, hl with | [_, _], _ => rfl⟩
  have D28 : DefAt K mg "law" (topS 45) ["_law_script"] := by
    have F := fun_mk (st := topS 45) l28 c28 k28
    exact ⟨_, _, F, PySem.W.mg_of X G a28, F.binds fun _ _ _ _ _ _ us hl => match us, hl with | [_], _ => rfl⟩
  have T : Top K mg (fun n => match n with | 0 => x0 | 1 => x1 | 2 => x2 | 3 => x3 | 4 => x4 | 5 => x5 | _ => x6) (fun _ => C) :=
    { n_all := PySem.W.mg_none_of X G n_all,
      n_bool := PySem.W.mg_none_of X G n_bool,
      n_int := PySem.W.mg_none_of X G n_int,
      n_isinstance := PySem.W.mg_none_of X G n_isinstance,
      n_len := PySem.W.mg_none_of X G n_len,
      n_list := PySem.W.mg_none_of X G n_list,
      n_min := PySem.W.mg_none_of X G n_min,
      n_range := PySem.W.mg_none_of X G n_range,
      n_str := PySem.W.mg_none_of X G n_str,
      n_sum := PySem.W.mg_none_of X G n_sum,
      n_tuple := PySem.W.mg_none_of X G n_tuple,
      n_zip := PySem.W.mg_none_of X G n_zip,
      i_MOST_UNKNOWNS := ⟨_, PySem.W.mg_of X G i_MOST_UNKNOWNS⟩,
      i_GREATEST_TOP := ⟨_, PySem.W.mg_of X G i_GREATEST_TOP⟩,
      i_MOST_ROWS := ⟨_, PySem.W.mg_of X G i_MOST_ROWS⟩,
      i_GREATEST_NUMBER := ⟨_, PySem.W.mg_of X G i_GREATEST_NUMBER⟩,
      i_GREATEST_BOUND := ⟨_, PySem.W.mg_of X G i_GREATEST_BOUND⟩,
      e_CutError := ⟨PySem.W.mg_of X G xg0, xk0, xx0, xb0, xt0⟩,
      e_BadProblem := ⟨PySem.W.mg_of X G xg1, xk1, xx1, xb1, xt1⟩,
      e_BadPoint := ⟨PySem.W.mg_of X G xg2, xk2, xx2, xb2, xt2⟩,
      e_BadBox := ⟨PySem.W.mg_of X G xg3, xk3, xx3, xb3, xt3⟩,
      e_BadWeights := ⟨PySem.W.mg_of X G xg4, xk4, xx4, xb4, xt4⟩,
      e_NoTurn := ⟨PySem.W.mg_of X G xg5, xk5, xx5, xb5, xt5⟩,
      e_BadText := ⟨PySem.W.mg_of X G xg6, xk6, xx6, xb6, xt6⟩,
      cl0 := ⟨pg, hd, po, sa⟩,
      mc_Problem := PySem.W.mg_of X G aC,
      na_tops := na_tops,
      na_rows := na_rows,
      na_gain := na_gain,
      d_is_whole := D0,
      d_is_within := D1,
      d_are_within := D2,
      d_products_sum := D3,
      d_is_problem := D4,
      d_are_tops := D5,
      d_are_rows := D6,
      d_is_row := D7,
      d_is_word := D8,
      d_is_gain := D9,
      d_are_numbers := D10,
      d_is_point := D11,
      d_check_point := D12,
      d_meets := D13,
      d_holds := D14,
      d_gained := D15,
      d__law_cell_at := D16,
      d__law_whole := D17,
      d__law_number := D18,
      d__law_bound := D19,
      d__law_tops := D20,
      d__law_kind := D21,
      d__law_gain := D22,
      d__law_rows := D23,
      d__law_sum := D24,
      d__law_meets := D25,
      d__law_refused := D26,
      d__law_no_point := D27,
      d_law := D28 }
  have FI := fun_mk (st := st_init) lI cI kI
  have bI : Binds K _ ["self", "tops", "rows", "gain"] [] := FI.binds fun _ _ _ _ _ _ us hl => match us, hl with | [_, _, _, _], _ => rfl
  have M : Mk K C fI := ⟨mkC, aI, iI, kC⟩
  have R2 : RefN K mg (fun n => match n with | 0 => x0 | 1 => x1 | 2 => x2 | 3 => x3 | 4 => x4 | 5 => x5 | _ => x6) 2 :=
    ⟨⟨r2_hg, r2_hk, xb2, r2_hd, r2_ha, r_hn, r_ht, r2_hm⟩, PySem.W.exm_ref xb2 r2_hd xt2 r2_s, fun j hj => match j, hj with
      | 0, _ => kit_own r2_s r_i0 xt0 r2_k0
      | 1, _ => kit_own r2_s r_i1 xt1 r2_k1
      | 2, _ => kit_own r2_s r_i2 xt2 r2_s
      | 3, _ => kit_own r2_s r_i3 xt3 r2_k3
      | 4, _ => kit_own r2_s r_i4 xt4 r2_k4
      | 5, _ => kit_own r2_s r_i5 xt5 r2_k5
      | 6, _ => kit_own r2_s r_i6 xt6 r2_k6
      , kit_ty2 (by decide +kernel) (fun z => by cases z) r2_kV, PySem.W.mg_none_of X G r_nV⟩
  exact ⟨_, fun s v => .of_eq rfl, fun base _ _ => ok_law T R2 (mk_Problem T FI M bI) (fun_mk (st := topS 45) l28 c28 k28) fun ns _ => law_true ns⟩
theorem walk {l : PySem.W.OpenLaw} {q : Program} {loose : List Str} {XP : (Str → Option Value) → Heap → Prop} {YP : World → Heap → Prop} {d : DefRec} {K : Params → PySem.W.Frag} (hn : l.most = some 63) (hdf : d.params.defaults = [])
    (hY : ∀ (w : World) (h : Heap), YP w h → (K w.params).In h)
    (F : ∀ (w : World) (mg : Str → Option Value) (fa : Addr) (h : Heap), (K w.params).In h → h.Ns mainGlobals mg → mg d.name = some (.ref fa) →
      ∃ fd : FuncData, (∀ (s : Shared) (u : Value), BindsTo s fd ⟨[u], []⟩ [("_law_script", u)]) ∧ ∀ base : Heap, (K w.params).In base → base.Ns mainGlobals mg → FnOk l.prog w (K w.params) mg base (L2.CX l.prog w) 13 fa fd ["_law_script"] (spLaw (K w.params))) :
    PySem.W.WalkO q loose XP YP l.row.toRowW d [] (fun f vs => PySem.call f vs) :=
  L2.walk_of (n := 63) (k := 13) (x := "_law_script") (CX := fun w => L2.CX l.prog w) (sp := fun w => spLaw (K w.params)) hn (by decide) hdf ⟨rfl, by decide, by decide⟩ hY F (fun _ _ a ns hl _ hS => ⟨a, ns, rfl, hS, hl, fun _ => rfl⟩) fun _ _ _ _ _ z => by
    obtain ⟨_, _, _, _, _, _, _, _, _, _, _, _, z⟩ := z
    exact z
end K03

set_option Elab.async false
set_option linter.all false
set_option maxRecDepth 100000
open PySem PySem.W PyProof.Rows in
set_option maxRecDepth 100000 in
set_option maxHeartbeats 0 in
theorem PySem.Challenge.cw_wholecut_k03_points_holds : PySem.Challenge.rw_wholecut_k03_points.Holds := by
  w_on; o_law; k_head; (case hw => w_witness2)
  k_fill
  refine K03.walk (l := PySem.Challenge.rw_wholecut_k03_points) rfl rfl (fun w h Y => PySem.W.kIn_of Y) ?F
  case F =>
    intro w mg fa h KX G hmg
    refine' K03.all_mk KX G hmg ?a0 ?l0 ?c0 ?k0 ?a1 ?l1 ?c1 ?k1 ?a2 ?l2 ?c2 ?k2 ?a3 ?l3 ?c3 ?k3 ?a4 ?l4 ?c4 ?k4 ?a5 ?l5 ?c5 ?k5 ?a6 ?l6 ?c6 ?k6 ?a7 ?l7 ?c7 ?k7 ?a8 ?l8 ?c8 ?k8 ?a9 ?l9 ?c9 ?k9 ?a10 ?l10 ?c10 ?k10 ?a11 ?l11 ?c11 ?k11 ?a12 ?l12 ?c12 ?k12 ?a13 ?l13 ?c13 ?k13 ?a14 ?l14 ?c14 ?k14 ?a15 ?l15 ?c15 ?k15 ?a16 ?l16 ?c16 ?k16 ?a17 ?l17 ?c17 ?k17 ?a18 ?l18 ?c18 ?k18 ?a19 ?l19 ?c19 ?k19 ?a20 ?l20 ?c20 ?k20 ?a21 ?l21 ?c21 ?k21 ?a22 ?l22 ?c22 ?k22 ?a23 ?l23 ?c23 ?k23 ?a24 ?l24 ?c24 ?k24 ?a25 ?l25 ?c25 ?k25 ?a26 ?l26 ?c26 ?k26 ?a27 ?l27 ?c27 ?k27 ?a28 ?l28 ?c28 ?k28 ?aC ?aI ?iI ?lI ?cI ?kI ?pg ?hd ?po ?sa ?mkC ?kC ?na_tops ?na_rows ?na_gain ?xg0 ?xk0 ?xx0 ?xb0 ?xt0 ?xg1 ?xk1 ?xx1 ?xb1 ?xt1 ?xg2 ?xk2 ?xx2 ?xb2 ?xt2 ?xg3 ?xk3 ?xx3 ?xb3 ?xt3 ?xg4 ?xk4 ?xx4 ?xb4 ?xt4 ?xg5 ?xk5 ?xx5 ?xb5 ?xt5 ?xg6 ?xk6 ?xx6 ?xb6 ?xt6 ?i_MOST_UNKNOWNS ?i_GREATEST_TOP ?i_MOST_ROWS ?i_GREATEST_NUMBER ?i_GREATEST_BOUND ?n_all ?n_bool ?n_int ?n_isinstance ?n_len ?n_list ?n_min ?n_range ?n_str ?n_sum ?n_tuple ?n_zip ?r_hn ?r_ht ?r_nV ?r_i0 ?r_i1 ?r_i2 ?r_i3 ?r_i4 ?r_i5 ?r_i6 ?r2_hg ?r2_hk ?r2_hd ?r2_ha ?r2_hm ?r2_s ?r2_kV ?r2_k0 ?r2_k1 ?r2_k3 ?r2_k4 ?r2_k5 ?r2_k6
    (case a0 => k_is)
    (case l0 => k_is)
    (case c0 => k_is)
    (case k0 => k_is)
    (case a1 => k_is)
    (case l1 => k_is)
    (case c1 => k_is)
    (case k1 => k_is)
    (case a2 => k_is)
    (case l2 => k_is)
    (case c2 => k_is)
    (case k2 => k_is)
    (case a3 => k_is)
    (case l3 => k_is)
    (case c3 => k_is)
    (case k3 => k_is)
    (case a4 => k_is)
    (case l4 => k_is)
    (case c4 => k_is)
    (case k4 => k_is)
    (case a5 => k_is)
    (case l5 => k_is)
    (case c5 => k_is)
    (case k5 => k_is)
    (case a6 => k_is)
    (case l6 => k_is)
    (case c6 => k_is)
    (case k6 => k_is)
    (case a7 => k_is)
    (case l7 => k_is)
    (case c7 => k_is)
    (case k7 => k_is)
    (case a8 => k_is)
    (case l8 => k_is)
    (case c8 => k_is)
    (case k8 => k_is)
    (case a9 => k_is)
    (case l9 => k_is)
    (case c9 => k_is)
    (case k9 => k_is)
    (case a10 => k_is)
    (case l10 => k_is)
    (case c10 => k_is)
    (case k10 => k_is)
    (case a11 => k_is)
    (case l11 => k_is)
    (case c11 => k_is)
    (case k11 => k_is)
    (case a12 => k_is)
    (case l12 => k_is)
    (case c12 => k_is)
    (case k12 => k_is)
    (case a13 => k_is)
    (case l13 => k_is)
    (case c13 => k_is)
    (case k13 => k_is)
    (case a14 => k_is)
    (case l14 => k_is)
    (case c14 => k_is)
    (case k14 => k_is)
    (case a15 => k_is)
    (case l15 => k_is)
    (case c15 => k_is)
    (case k15 => k_is)
    (case a16 => k_is)
    (case l16 => k_is)
    (case c16 => k_is)
    (case k16 => k_is)
    (case a17 => k_is)
    (case l17 => k_is)
    (case c17 => k_is)
    (case k17 => k_is)
    (case a18 => k_is)
    (case l18 => k_is)
    (case c18 => k_is)
    (case k18 => k_is)
    (case a19 => k_is)
    (case l19 => k_is)
    (case c19 => k_is)
    (case k19 => k_is)
    (case a20 => k_is)
    (case l20 => k_is)
    (case c20 => k_is)
    (case k20 => k_is)
    (case a21 => k_is)
    (case l21 => k_is)
    (case c21 => k_is)
    (case k21 => k_is)
    (case a22 => k_is)
    (case l22 => k_is)
    (case c22 => k_is)
    (case k22 => k_is)
    (case a23 => k_is)
    (case l23 => k_is)
    (case c23 => k_is)
    (case k23 => k_is)
    (case a24 => k_is)
    (case l24 => k_is)
    (case c24 => k_is)
    (case k24 => k_is)
    (case a25 => k_is)
    (case l25 => k_is)
    (case c25 => k_is)
    (case k25 => k_is)
    (case a26 => k_is)
    (case l26 => k_is)
    (case c26 => k_is)
    (case k26 => k_is)
    (case a27 => k_is)
    (case l27 => k_is)
    (case c27 => k_is)
    (case k27 => k_is)
    (case a28 => k_is)
    (case l28 => k_is)
    (case c28 => k_is)
    (case k28 => k_is)
    (case aC => k_is)
    (case aI => k_is)
    (case iI => k_is)
    (case lI => k_is)
    (case cI => k_is)
    (case kI => k_is)
    (case pg => k_is)
    (case hd => k_is)
    (case po => k_is)
    (case sa => k_is)
    (case mkC => k_is)
    (case kC => k_is)
    (case na_tops => k_is)
    (case na_rows => k_is)
    (case na_gain => k_is)
    (case xg0 => k_is)
    (case xk0 => k_is)
    (case xx0 => k_exc)
    (case xb0 => k_is)
    (case xt0 => k_is)
    (case xg1 => k_is)
    (case xk1 => k_is)
    (case xx1 => k_exc)
    (case xb1 => k_is)
    (case xt1 => k_is)
    (case xg2 => k_is)
    (case xk2 => k_is)
    (case xx2 => k_exc)
    (case xb2 => k_is)
    (case xt2 => k_is)
    (case xg3 => k_is)
    (case xk3 => k_is)
    (case xx3 => k_exc)
    (case xb3 => k_is)
    (case xt3 => k_is)
    (case xg4 => k_is)
    (case xk4 => k_is)
    (case xx4 => k_exc)
    (case xb4 => k_is)
    (case xt4 => k_is)
    (case xg5 => k_is)
    (case xk5 => k_is)
    (case xx5 => k_exc)
    (case xb5 => k_is)
    (case xt5 => k_is)
    (case xg6 => k_is)
    (case xk6 => k_is)
    (case xx6 => k_exc)
    (case xb6 => k_is)
    (case xt6 => k_is)
    (case i_MOST_UNKNOWNS => k_is)
    (case i_GREATEST_TOP => k_is)
    (case i_MOST_ROWS => k_is)
    (case i_GREATEST_NUMBER => k_is)
    (case i_GREATEST_BOUND => k_is)
    (case n_all => k_is)
    (case n_bool => k_is)
    (case n_int => k_is)
    (case n_isinstance => k_is)
    (case n_len => k_is)
    (case n_list => k_is)
    (case n_min => k_is)
    (case n_range => k_is)
    (case n_str => k_is)
    (case n_sum => k_is)
    (case n_tuple => k_is)
    (case n_zip => k_is)
    (case r_hn => k_is)
    (case r_ht => k_is)
    (case r_nV => k_is)
    (case r_i0 => k_is)
    (case r_i1 => k_is)
    (case r_i2 => k_is)
    (case r_i3 => k_is)
    (case r_i4 => k_is)
    (case r_i5 => k_is)
    (case r_i6 => k_is)
    (case r2_hg => k_is)
    (case r2_hk => k_is)
    (case r2_hd => k_is)
    (case r2_ha => k_is)
    (case r2_hm => k_is)
    (case r2_s => first | rfl | k_is)
    (case r2_kV => k_is)
    (case r2_k0 => k_is)
    (case r2_k1 => k_is)
    (case r2_k3 => k_is)
    (case r2_k4 => k_is)
    (case r2_k5 => k_is)
    (case r2_k6 => k_is)

