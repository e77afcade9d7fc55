import PyProof.Rows.All
import Wide.All
import OpenK.AllK
import Wide.FinOn
import HandS.ForMost
import HandS.Wide
import HandS.ExcInit
import HandS.ExcValue
import HandS.EndBits
import HandS.Defaults
import HandS.More
import HandS.Strs
import HandS.IsInst
import HandS.DictComp
import HandS.Star
import HandS.Zip
import HandS.Conv
import HandS.SortInts
import KE.DataEq
import HandS.Exc
import KE.KExcIs
import HandS.ExcCtx
import HandS.ExcField
import HandS.ExcInitHot
import HandS.HeadHook1
import KE.KStateDown
import HandS.Head0
import HandS.Head1
import HandS.Head2
import HandS.HeadEnd
import HandS.HeadHook2
import PySem.Challenge.RW_pairedtongues_k00_error_classes
set_option Elab.async false
set_option linter.all false
set_option maxRecDepth 100000
set_option maxHeartbeats 4000000
/-! The data machine: values W, a store of cells, readings over them that know no address. -/
namespace Dm
open PySem PySem.Spec PyProof.Rows L2

/-! ### values and cells -/
inductive W where
  | non | bl (b : Bool) | int (i : Int) | str (x : Str) | ty (n : String) | tup (ws : List W) | cell (k : Nat) | ref (a : Addr) | xr (a : Addr) (d : Option Addr) (dk : Option Nat)
inductive Cell where
  | dead | lst (ws : List W) | rol (ws : List W) | dct (kvs : List (Key × W))
  | exc (C : Addr) | exr (C : Addr) (j : Nat) | exf (fs : List (Str × W)) | xd (fs : List (Str × W))

/-- where an exception's dict lies -/
def dkR (θ : List Addr) : Option Nat → Option Addr → Prop
  | none, none => True
  | some k, some a => θ[k]? = some a
  | _, _ => False
mutual
inductive RW (K : PySem.W.Frag) (F : Hp) (θ : List Addr) : V → W → Prop
  | non : RW K F θ .non .non
  | bl (b : Bool) : RW K F θ (.bl b) (.bl b)
  | int (i : Int) : RW K F θ (.int i) (.int i)
  | str (x : Str) : RW K F θ (.str x) (.str x)
  | ty (n : String) : RW K F θ (.ty n) (.ty n)
  | tup {a : Addr} {vs : List V} {ws : List W} : SqT K F a vs → RWs K F θ vs ws → RW K F θ (.ref a) (.tup ws)
  | cell {k : Nat} {a : Addr} : θ[k]? = some a → RW K F θ (.ref a) (.cell k)
  | ref (a : Addr) : RW K F θ (.ref a) (.ref a)
  | xr {a : Addr} {d : Option Addr} {dk : Option Nat} : dkR θ dk d → RW K F θ (.ref a) (.xr a d dk)
inductive RWs (K : PySem.W.Frag) (F : Hp) (θ : List Addr) : List V → List W → Prop
  | nil : RWs K F θ [] []
  | cons {v : V} {vs : List V} {w : W} {ws : List W} : RW K F θ v w → RWs K F θ vs ws → RWs K F θ (v :: vs) (w :: ws)
end
/-- what is frozen, and where the cells lie, only grows -/
structure Gr (F : Hp) (θ : List Addr) (F' : Hp) (θ' : List Addr) : Prop where
  fz : ∀ a o, F a = some o → F' a = some o
  th : ∃ m, θ' = θ ++ m
theorem Gr.refl {F : Hp} {θ : List Addr} : Gr F θ F θ := ⟨fun _ _ h => h, [], by simp⟩
theorem Gr.trans {F F1 F2 : Hp} {θ θ1 θ2 : List Addr} (a : Gr F θ F1 θ1) (b : Gr F1 θ1 F2 θ2) : Gr F θ F2 θ2 := by
  obtain ⟨m, e⟩ := a.th
  obtain ⟨n, e2⟩ := b.th
  exact ⟨fun x o h => b.fz x o (a.fz x o h), m ++ n, by rw [e2, e, List.append_assoc]⟩
theorem Gr.at {F F' : Hp} {θ θ' : List Addr} (g : Gr F θ F' θ') {k : Nat} {a : Addr} (h : θ[k]? = some a) : θ'[k]? = some a := by
  obtain ⟨m, e⟩ := g.th
  rw [e, List.getElem?_append_left (List.getElem?_eq_some_iff.mp h).1]
  exact h
theorem dkR.mono {F F' : Hp} {θ θ' : List Addr} (g : Gr F θ F' θ') {dk : Option Nat} {d : Option Addr} (h : dkR θ dk d) : dkR θ' dk d := by
  cases dk <;> cases d
  · exact True.intro
  · exact h.elim
  · exact h.elim
  · exact g.at h
theorem sqT_fz {K : PySem.W.Frag} {F F' : Hp} {a : Addr} {xs : List V} (e : ∀ a o, F a = some o → F' a = some o) (h : SqT K F a xs) : SqT K F' a xs := by
  rcases h with (h | ⟨o, h⟩) | h
  · exact .inl (.inl (e _ _ h))
  · exact .inl (.inr ⟨o, e _ _ h⟩)
  · exact .inr h
mutual
theorem RW.mono {K : PySem.W.Frag} {F F' : Hp} {θ θ' : List Addr} (g : Gr F θ F' θ') : ∀ {v : V} {w : W}, RW K F θ v w → RW K F' θ' v w
  | _, _, .non => .non
  | _, _, .bl b => .bl b
  | _, _, .int i => .int i
  | _, _, .str x => .str x
  | _, _, .ty n => .ty n
  | _, _, .tup h r => .tup (sqT_fz g.fz h) (RWs.mono g r)
  | _, _, .cell h => .cell (g.at h)
  | _, _, .ref a => .ref a
  | _, _, .xr h => .xr (h.mono g)
theorem RWs.mono {K : PySem.W.Frag} {F F' : Hp} {θ θ' : List Addr} (g : Gr F θ F' θ') : ∀ {v : List V} {w : List W}, RWs K F θ v w → RWs K F' θ' v w
  | _, _, .nil => .nil
  | _, _, .cons r t => .cons (RW.mono g r) (RWs.mono g t)
end
section
variable {K : PySem.W.Frag} {F : Hp} {θ : List Addr}
theorem RWs.length : ∀ {vs : List V} {ws : List W}, RWs K F θ vs ws → vs.length = ws.length
  | _, _, .nil => rfl
  | _, _, .cons _ t => by rw [List.length_cons, List.length_cons, RWs.length t]
theorem RWs.get : ∀ {vs : List V} {ws : List W} {i : Nat} {w : W}, RWs K F θ vs ws → ws[i]? = some w → ∃ v, vs[i]? = some v ∧ RW K F θ v w
  | _, _, _, _, .nil, e => by simp at e
  | _, _, 0, _, .cons r _, e => by simp at e; subst e; exact ⟨_, rfl, r⟩
  | _, _, i + 1, w, .cons _ t, e => by
    obtain ⟨v, h1, h2⟩ := RWs.get (i := i) (w := w) t (by simpa using e)
    exact ⟨v, by simpa using h1, h2⟩
theorem RWs.getV : ∀ {vs : List V} {ws : List W} {i : Nat} {v : V}, RWs K F θ vs ws → vs[i]? = some v → ∃ w, ws[i]? = some w ∧ RW K F θ v w
  | _, _, _, _, .nil, e => by simp at e
  | _, _, 0, _, .cons r _, e => by simp at e; subst e; exact ⟨_, rfl, r⟩
  | _, _, i + 1, v, .cons _ t, e => by
    obtain ⟨w, h1, h2⟩ := RWs.getV (i := i) (v := v) t (by simpa using e)
    exact ⟨w, by simpa using h1, h2⟩
theorem RWs.append : ∀ {vs us : List V} {ws zs : List W}, RWs K F θ vs ws → RWs K F θ us zs → RWs K F θ (vs ++ us) (ws ++ zs)
  | _, _, _, _, .nil, s => s
  | _, _, _, _, .cons r t, s => .cons r (RWs.append t s)
theorem RWs.set {v : V} {w : W} (r : RW K F θ v w) : ∀ {vs : List V} {ws : List W} (i : Nat), RWs K F θ vs ws → RWs K F θ (vs.set i v) (ws.set i w)
  | _, _, _, .nil => .nil
  | _, _, 0, .cons _ t => .cons r t
  | _, _, i + 1, .cons q t => .cons q (RWs.set r i t)
theorem RWs.erase : ∀ {vs : List V} {ws : List W} (i : Nat), RWs K F θ vs ws → RWs K F θ (vs.eraseIdx i) (ws.eraseIdx i)
  | _, _, _, .nil => .nil
  | _, _, 0, .cons _ t => t
  | _, _, i + 1, .cons q t => .cons q (RWs.erase i t)
theorem RWs.take : ∀ {vs : List V} {ws : List W} (n : Nat), RWs K F θ vs ws → RWs K F θ (vs.take n) (ws.take n)
  | _, _, 0, _ => .nil
  | _, _, _ + 1, .nil => .nil
  | _, _, n + 1, .cons r t => .cons r (RWs.take n t)
theorem RWs.drop : ∀ {vs : List V} {ws : List W} (n : Nat), RWs K F θ vs ws → RWs K F θ (vs.drop n) (ws.drop n)
  | _, _, 0, r => r
  | _, _, _ + 1, .nil => .nil
  | _, _, n + 1, .cons _ t => RWs.drop n t
theorem RWs.ints {ns : List Int} : RWs K F θ (ns.map V.int) (ns.map W.int) := by
  induction ns with
  | nil => exact .nil
  | cons n r ih => exact .cons (.int n) ih
theorem RW.int_inv {v : V} {i : Int} (r : RW K F θ v (.int i)) : v = .int i := by cases r; rfl
theorem RW.bl_inv {v : V} {b : Bool} (r : RW K F θ v (.bl b)) : v = .bl b := by cases r; rfl
theorem RW.str_inv {v : V} {x : Str} (r : RW K F θ v (.str x)) : v = .str x := by cases r; rfl
theorem RW.non_inv {v : V} (r : RW K F θ v .non) : v = .non := by cases r; rfl
theorem RW.ty_inv {v : V} {n : String} (r : RW K F θ v (.ty n)) : v = .ty n := by cases r; rfl
theorem RW.tup_inv {v : V} {ws : List W} (r : RW K F θ v (.tup ws)) : ∃ a vs, v = .ref a ∧ SqT K F a vs ∧ RWs K F θ vs ws := by
  cases r with
  | tup h q => exact ⟨_, _, rfl, h, q⟩
theorem RW.cell_inv {v : V} {k : Nat} (r : RW K F θ v (.cell k)) : ∃ a, v = .ref a ∧ θ[k]? = some a := by
  cases r with
  | cell h => exact ⟨_, rfl, h⟩
theorem RWs.one_inv {vs : List V} {w : W} (r : RWs K F θ vs [w]) : ∃ v, vs = [v] ∧ RW K F θ v w := by
  cases r with
  | cons a b => cases b; exact ⟨_, rfl, a⟩
theorem RWs.two_inv {vs : List V} {w z : W} (r : RWs K F θ vs [w, z]) : ∃ v u, vs = [v, u] ∧ RW K F θ v w ∧ RW K F θ u z := by
  cases r with
  | cons a b =>
    obtain ⟨u, e, c⟩ := b.one_inv
    subst e
    exact ⟨_, _, rfl, a, c⟩
end

/-! ### the store over the heap -/
abbrev Sto := List Cell
def KvR (K : PySem.W.Frag) (F : Hp) (θ : List Addr) : List (Key × V) → List (Key × W) → Prop := Paired fun p q => p.1 = q.1 ∧ RW K F θ p.2 q.2
def FsR (K : PySem.W.Frag) (F : Hp) (θ : List Addr) : List (Str × V) → List (Str × W) → Prop := Paired fun p q => p.1 = q.1 ∧ RW K F θ p.2 q.2
def CellOk (K : PySem.W.Frag) (F H : Hp) (θ : List Addr) (a : Addr) : Cell → Prop
  | .dead => True
  | .lst ws => F a = none ∧ ∃ vs, H a = some (.lst vs) ∧ RWs K F θ vs ws
  | .rol ws => F a = none ∧ ∃ o vs, H a = some (.frz o (.lst vs)) ∧ RWs K F θ vs ws
  | .dct kvs => F a = none ∧ ∃ vs, H a = some (.dK vs) ∧ KvR K F θ vs kvs
  | .exc C => F a = none ∧ H a = some (ExO (.ref C) a)
  | .exr C j => F a = none ∧ ∃ d, θ[j]? = some d ∧ H a = some (exo a C (some d))
  | .exf fs => F a = none ∧ ∃ vs, H a = some (exd a vs) ∧ FsR K F θ vs fs
  | .xd fs => F a = none ∧ ∃ vs, H a = some (.xd vs) ∧ FsR K F θ vs fs
structure Jn (K : PySem.W.Frag) (F H : Hp) (θ : List Addr) (O : Sto) : Prop where
  sub : ∀ a o, F a = some o → H a = some o
  len : θ.length = O.length
  nd : θ.Nodup
  ok : ∀ (k : Nat) (a : Addr) (c : Cell), θ[k]? = some a → O[k]? = some c → CellOk K F H θ a c
  kno : ∀ (k : Nat) (a : Addr), θ[k]? = some a → H a ≠ none
section
variable {K : PySem.W.Frag} {F F' H H' : Hp} {θ θ' : List Addr} {O : Sto}
theorem KvR.mono (g : Gr F θ F' θ') {vs : List (Key × V)} {kvs : List (Key × W)} (h : KvR K F θ vs kvs) : KvR K F' θ' vs kvs := Paired.mapP h fun _ _ r => ⟨r.1, r.2.mono g⟩
theorem FsR.mono (g : Gr F θ F' θ') {vs : List (Str × V)} {fs : List (Str × W)} (h : FsR K F θ vs fs) : FsR K F' θ' vs fs := Paired.mapP h fun _ _ r => ⟨r.1, r.2.mono g⟩
theorem nd_at {α : Type} {l : List α} (hN : l.Nodup) {i j : Nat} {x : α} (a : l[i]? = some x) (b : l[j]? = some x) : i = j := by
  obtain ⟨h1, e1⟩ := List.getElem?_eq_some_iff.mp a
  obtain ⟨h2, e2⟩ := List.getElem?_eq_some_iff.mp b
  exact (List.getElem_inj hN).mp (e1.trans e2.symm)
/-- what a cell says stays true where its own object stays and what is frozen grows elsewhere -/
theorem CellOk.stay {a : Addr} {c : Cell} (x : CellOk K F H θ a c) (g : Gr F θ F' θ') (hF : F a = none → H a ≠ none → F' a = none) (hH : ∀ o, H a = some o → H' a = some o) : CellOk K F' H' θ' a c := by
  cases c with
  | dead => exact True.intro
  | lst ws =>
    obtain ⟨f, vs, e, r⟩ := x
    exact ⟨hF f (by rw [e]; simp), vs, hH _ e, r.mono g⟩
  | rol ws =>
    obtain ⟨f, o, vs, e, r⟩ := x
    exact ⟨hF f (by rw [e]; simp), o, vs, hH _ e, r.mono g⟩
  | dct kvs =>
    obtain ⟨f, vs, e, r⟩ := x
    exact ⟨hF f (by rw [e]; simp), vs, hH _ e, r.mono g⟩
  | exc C =>
    obtain ⟨f, e⟩ := x
    exact ⟨hF f (by rw [e]; simp), hH _ e⟩
  | exr C i =>
    obtain ⟨f, d, t, e⟩ := x
    exact ⟨hF f (by rw [e]; simp), d, g.at t, hH _ e⟩
  | exf fs =>
    obtain ⟨f, vs, e, r⟩ := x
    exact ⟨hF f (by rw [e]; simp), vs, hH _ e, r.mono g⟩
  | xd fs =>
    obtain ⟨f, vs, e, r⟩ := x
    exact ⟨hF f (by rw [e]; simp), vs, hH _ e, r.mono g⟩
theorem Gr.upd {p : Addr} {o : HO} (h : F p = none) : Gr F θ (L2.upd F p o) θ := ⟨fun a u e => by
  rw [upd_ne (ne_of_none e h)]
  exact e, [], by simp⟩
theorem Gr.push {p : Addr} : Gr F θ F (θ ++ [p]) := ⟨fun _ _ e => e, [p], rfl⟩
theorem Jn.freeF (j : Jn K F H θ O) {p : Addr} (h : H p = none) : F p = none := by
  cases e : F p with
  | none => rfl
  | some o => rw [j.sub p o e] at h; cases h
theorem Jn.nin (j : Jn K F H θ O) {p : Addr} (h : H p = none) {k : Nat} {a : Addr} (e : θ[k]? = some a) : a ≠ p := fun z => by
  subst z
  exact j.kno k a e h
/-- a new tuple -/
theorem Jn.newT (j : Jn K F H θ O) {p : Addr} {vs : List V} (h : H p = none) : Jn K (L2.upd F p (.tup vs)) (L2.upd H p (.tup vs)) θ O := by
  refine ⟨fun a o e => ?_, j.len, j.nd, fun k a c e1 e2 => ?_, fun k a e => ?_⟩
  · by_cases q : a = p
    · subst q
      rw [upd_same] at e ⊢
      exact e
    · rw [upd_ne q] at e ⊢
      exact j.sub a o e
  · have q := j.nin h e1
    exact (j.ok k a c e1 e2).stay (Gr.upd (j.freeF h)) (fun f _ => by rw [upd_ne q]; exact f) fun o e => by rw [upd_ne q]; exact e
  · rw [upd_ne (j.nin h e)]
    exact j.kno k a e
/-- a new list, a cell of its own -/
theorem Jn.newC (j : Jn K F H θ O) {p : Addr} {o : HO} {c : Cell} (h : H p = none) (hc : CellOk K F (L2.upd H p o) (θ ++ [p]) p c) : Jn K F (L2.upd H p o) (θ ++ [p]) (O ++ [c]) := by
  refine ⟨fun a u e => ?_, by rw [List.length_append, List.length_append, j.len]; rfl, ?_, fun k a d e1 e2 => ?_, fun k a e => ?_⟩
  · rw [upd_ne (ne_of_none (j.sub a u e) h)]
    exact j.sub a u e
  · rw [List.nodup_append]
    refine ⟨j.nd, by simp, fun a ha b hb z => ?_⟩
    obtain ⟨k, hk⟩ := List.getElem?_of_mem ha
    rw [List.mem_singleton] at hb
    exact j.nin h hk (z.trans hb)
  · by_cases q : k < θ.length
    · rw [List.getElem?_append_left q] at e1
      rw [List.getElem?_append_left (by rw [← j.len]; exact q)] at e2
      have n := j.nin h e1
      exact (j.ok k a d e1 e2).stay Gr.push (fun f _ => f) fun o e => by rw [upd_ne n]; exact e
    · rw [List.getElem?_append_right (by omega)] at e1
      rw [List.getElem?_append_right (by rw [← j.len]; omega)] at e2
      have z : k - θ.length = 0 := by
        have := (List.getElem?_eq_some_iff.mp e1).1
        simp at this
        omega
      rw [z] at e1
      rw [← j.len, z] at e2
      simp at e1 e2
      subst e1
      subst e2
      exact hc
  · by_cases q : k < θ.length
    · rw [List.getElem?_append_left q] at e
      rw [upd_ne (j.nin h e)]
      exact j.kno k a e
    · rw [List.getElem?_append_right (by omega)] at e
      have z : a = p := by
        have hk := (List.getElem?_eq_some_iff.mp e).1
        have z : k - θ.length = 0 := by simp at hk; omega
        rw [z] at e
        simpa using e.symm
      rw [z, upd_same]
      simp
theorem Jn.newL (j : Jn K F H θ O) {p : Addr} {vs : List V} {ws : List W} (h : H p = none) (r : RWs K F θ vs ws) : Jn K F (L2.upd H p (.lst vs)) (θ ++ [p]) (O ++ [.lst ws]) :=
  j.newC h ⟨j.freeF h, vs, upd_same, r.mono Gr.push⟩
/-- a cell is written -/
theorem Jn.put (j : Jn K F H θ O) {k : Nat} {a : Addr} {o : HO} {c : Cell} (e : θ[k]? = some a) (f : F a = none) (hc : CellOk K F (L2.upd H a o) θ a c) : Jn K F (L2.upd H a o) θ (O.set k c) := by
  refine ⟨fun b u q => ?_, by rw [List.length_set]; exact j.len, j.nd, fun i b d e1 e2 => ?_, fun i b q => ?_⟩
  · rw [upd_ne (ne_of_none q f)]
    exact j.sub b u q
  · by_cases q : i = k
    · subst q
      rw [e] at e1
      cases e1
      have hl : i < O.length := by
        rw [← j.len]
        exact (List.getElem?_eq_some_iff.mp e).1
      rw [List.getElem?_set_self hl] at e2
      cases e2
      exact hc
    · rw [List.getElem?_set_ne (Ne.symm q)] at e2
      have n : b ≠ a := fun z => by
        subst z
        exact q (nd_at j.nd e1 e)
      exact (j.ok i b d e1 e2).stay Gr.refl (fun z _ => z) fun u z => by rw [upd_ne n]; exact z
  · by_cases n : b = a
    · rw [n, upd_same]
      simp
    · rw [upd_ne n]
      exact j.kno i b q
theorem Jn.putL (j : Jn K F H θ O) {k : Nat} {a : Addr} {vs : List V} {ws : List W} (e : θ[k]? = some a) (f : F a = none) (r : RWs K F θ vs ws) : Jn K F (L2.upd H a (.lst vs)) θ (O.set k (.lst ws)) :=
  j.put e f ⟨f, vs, upd_same, r⟩
/-- what a list cell says -/
theorem Jn.lst (j : Jn K F H θ O) {k : Nat} {a : Addr} {ws : List W} (e : θ[k]? = some a) (c : O[k]? = some (.lst ws)) : F a = none ∧ ∃ vs, H a = some (.lst vs) ∧ RWs K F θ vs ws := j.ok k a _ e c
theorem Jn.rol (j : Jn K F H θ O) {k : Nat} {a : Addr} {ws : List W} (e : θ[k]? = some a) (c : O[k]? = some (.rol ws)) : F a = none ∧ ∃ o vs, H a = some (.frz o (.lst vs)) ∧ RWs K F θ vs ws := j.ok k a _ e c
theorem sqT_sub (j : Jn K F H θ O) {a : Addr} {xs : List V} (h : SqT K F a xs) : SqT K H a xs := sqT_fz j.sub h
/-- a list that may be read -/
def LstC (O : Sto) (k : Nat) (ws : List W) : Prop := O[k]? = some (.lst ws) ∨ O[k]? = some (.rol ws)
theorem Jn.lstC (j : Jn K F H θ O) {k : Nat} {a : Addr} {ws : List W} (e : θ[k]? = some a) (c : LstC O k ws) : ∃ vs, SqL K H a vs ∧ RWs K F θ vs ws := by
  rcases c with c | c
  · obtain ⟨_, vs, h, r⟩ := j.lst e c
    exact ⟨vs, .inl (.inl h), r⟩
  · obtain ⟨_, o, vs, h, r⟩ := j.rol e c
    exact ⟨vs, .inl (.inr ⟨o, h⟩), r⟩
end

/-! ### readings over the data -/
abbrev DS := List (Option W)
abbrev WK := W → Sto → Prop
abbrev DE := DS → Sto → WK → Prop
abbrev DT := DS → Sto → (Bool → Sto → Prop) → Prop
abbrev DA := DS → Sto → (List W → Sto → Prop) → Prop
def RS (K : PySem.W.Frag) (F : Hp) (θ : List Addr) (σ : L2.St) (δ : DS) : Prop := σ.length = δ.length ∧ ∀ (i : Nat) (w : W), δ[i]? = some (some w) → ∃ v, σ[i]? = some (some v) ∧ RW K F θ v w
theorem RS.mono {K : PySem.W.Frag} {F F' : Hp} {θ θ' : List Addr} {σ : L2.St} {δ : DS} (g : Gr F θ F' θ') (h : RS K F θ σ δ) : RS K F' θ' σ δ := ⟨h.1, fun i w e =>
  let ⟨v, q, r⟩ := h.2 i w e
  ⟨v, q, r.mono g⟩⟩
theorem RS.set {K : PySem.W.Frag} {F : Hp} {θ : List Addr} {σ : L2.St} {δ : DS} (h : RS K F θ σ δ) (i : Nat) {v : V} {w : W} (r : RW K F θ v w) : RS K F θ (σ.set i (some v)) (δ.set i (some w)) := by
  refine ⟨by rw [List.length_set, List.length_set]; exact h.1, fun j z e => ?_⟩
  by_cases q : j = i
  · subst q
    have hl : j < δ.length := by
      have := (List.getElem?_eq_some_iff.mp e).1
      rwa [List.length_set] at this
    rw [List.getElem?_set_self hl] at e
    cases e
    exact ⟨v, by rw [List.getElem?_set_self (by rw [h.1]; exact hl)], r⟩
  · rw [List.getElem?_set_ne (Ne.symm q)] at e ⊢
    exact h.2 j z e
def SE (K : PySem.W.Frag) (te : TE) (we : DE) : Prop := ∀ F H θ O σ δ S, Jn K F H θ O → RS K F θ σ δ → we δ O S → ∀ Q : VK,
  (∀ v w F' H' θ' O', Gr F θ F' θ' → Jn K F' H' θ' O' → RW K F' θ' v w → S w O' → Q v H') → te σ H Q
def STt (K : PySem.W.Frag) (tt : TT) (wt : DT) : Prop := ∀ F H θ O σ δ S, Jn K F H θ O → RS K F θ σ δ → wt δ O S → ∀ Q : Bool → Hp → Prop,
  (∀ b F' H' θ' O', Gr F θ F' θ' → Jn K F' H' θ' O' → S b O' → Q b H') → tt σ H Q
def SA (K : PySem.W.Frag) (ta : TA) (wa : DA) : Prop := ∀ F H θ O σ δ S, Jn K F H θ O → RS K F θ σ δ → wa δ O S → ∀ Q : List V → Hp → Prop,
  (∀ vs ws F' H' θ' O', Gr F θ F' θ' → Jn K F' H' θ' O' → RWs K F' θ' vs ws → S ws O' → Q vs H') → ta σ H Q
/-- two values in, a value out -/
abbrev R2D := W → W → Sto → WK → Prop
def SR2 (K : PySem.W.Frag) (r : R2) (rd : R2D) : Prop := ∀ F H θ O x y v u S, Jn K F H θ O → RW K F θ v x → RW K F θ u y → rd x y O S → ∀ Q : VK,
  (∀ z w F' H' θ' O', Gr F θ F' θ' → Jn K F' H' θ' O' → RW K F' θ' z w → S w O' → Q z H') → r v u H Q
structure ED (X : Cx) (e : Expr) (we : DE) : Prop where
  ex : ∃ te, PE X e te ∧ SE X.K te we
structure EDT (X : Cx) (e : Expr) (wt : DT) : Prop where
  ex : ∃ tt, PT X e tt ∧ STt X.K tt wt
structure EDA (X : Cx) (es : List Expr) (wa : DA) : Prop where
  ex : ∃ ta, PA X es ta ∧ SA X.K ta wa

def dVar (i : Nat) : DE := fun δ O S => ∃ w, δ[i]? = some (some w) ∧ S w O
def dC (w : W) : DE := fun _ O S => S w O
def dOp (r : R2D) (wa wb : DE) : DE := fun δ O S => wa δ O fun x O1 => wb δ O1 fun y O2 => r x y O2 S
def dNil : DA := fun _ O S => S [] O
def dCons (wa : DE) (wr : DA) : DA := fun δ O S => wa δ O fun x O1 => wr δ O1 fun xs O2 => S (x :: xs) O2
def dTup (wa : DA) : DE := fun δ O S => wa δ O fun ws O1 => ws.length ≤ sizeLine ∧ S (.tup ws) O1
def dLst (wa : DA) : DE := fun δ O S => wa δ O fun ws O1 => ws.length ≤ sizeLine ∧ S (.cell O1.length) (O1 ++ [.lst ws])
def dTest (we : DE) : DT := fun δ O S => we δ O fun x O1 => ∃ b, x = .bl b ∧ S b O1
def dIfE (wt : DT) (wa wb : DE) : DE := fun δ O S => wt δ O fun b O1 => if b = true then wa δ O1 S else wb δ O1 S
def dAnd (wt wu : DT) : DT := fun δ O S => wt δ O fun b O1 => if b = true then wu δ O1 S else S false O1
def dOr (wt wu : DT) : DT := fun δ O S => wt δ O fun b O1 => if b = true then S true O1 else wu δ O1 S
def dNot (wt : DT) : DT := fun δ O S => wt δ O fun b O1 => S (!b) O1

section
variable {X : Cx} {a b c e : Expr} {es : List Expr} {wa wb we : DE} {wr : DA} {wt wu : DT} {pos : Pos}
theorem SE.pure {K : PySem.W.Frag} {v : V} {w : W} (h : ∀ F θ, RW K F θ v w) : SE K (tC v) (dC w) := fun F H θ O σ δ S j s q Q k => k v w F H θ O Gr.refl j (h F θ) q
theorem ed_var {i : Nat} {x : Str} (h : PE X (.Name x pos) (tVar i)) : ED X (.Name x pos) (dVar i) := ⟨_, h, fun F H θ O σ δ S j s q Q k => by
  obtain ⟨w, e, q⟩ := q
  obtain ⟨v, e2, r⟩ := s.2 i w e
  exact ⟨v, e2, k v w F H θ O Gr.refl j r q⟩⟩
theorem dv (i : Nat) {x : Str} (hN : X.N[i]? = some x := by rfl) (hv : Vis X.env.scope x := by first | exact Or.inl rfl | exact Or.inr (Or.inl rfl) | exact Or.inr (Or.inr rfl)) (hd : (x == ("__debug__" : Str)) = false := by decide)
    (hcd : (x == ("__classdict__" : Str)) = false := by decide) : ED X (.Name x pos) (dVar i) := ed_var (pe_var hN hv hd hcd)
theorem ed_int {i j} : ED X (.Constant (.int i) j pos) (dC (.int i)) := ⟨_, pe_int, SE.pure fun _ _ => .int i⟩
theorem ed_bl {z j} : ED X (.Constant (.bool z) j pos) (dC (.bl z)) := ⟨_, pe_bl, SE.pure fun _ _ => .bl z⟩
theorem ed_non {j} : ED X (.Constant .none j pos) (dC .non) := ⟨_, pe_non, SE.pure fun _ _ => .non⟩
theorem ed_str {x j} : ED X (.Constant (.str x) j pos) (dC (.str x)) := ⟨_, pe_str, SE.pure fun _ _ => .str x⟩
theorem SE.op {K : PySem.W.Frag} {r : R2} {rd : R2D} {ta tb : TE} (hr : SR2 K r rd) (ha : SE K ta wa) (hb : SE K tb wb) : SE K (tOp r ta tb) (dOp rd wa wb) := fun F H θ O σ δ S j s q Q k => by
  refine ha F H θ O σ δ _ j s q _ fun v x F1 H1 θ1 O1 g1 j1 r1 q1 => ?_
  refine hb F1 H1 θ1 O1 σ δ _ j1 (s.mono g1) q1 _ fun u y F2 H2 θ2 O2 g2 j2 r2 q2 => ?_
  exact hr F2 H2 θ2 O2 x y v u S j2 (r1.mono g2) r2 q2 Q fun z w F3 H3 θ3 O3 g3 j3 r3 q3 => k z w F3 H3 θ3 O3 ((g1.trans g2).trans g3) j3 r3 q3
theorem ed_op {op : Operator} {r : R2} {rd : R2D} (ho : OpR X (binaryOp op) r) (hr : SR2 X.K r rd) (ha : ED X a wa) (hb : ED X b wb) : ED X (.BinOp a op b pos) (dOp rd wa wb) := by
  obtain ⟨ta, pa, sa⟩ := ha.ex
  obtain ⟨tb, pb, sb⟩ := hb.ex
  exact ⟨_, pe_op ho pa pb, .op hr sa sb⟩
theorem ed_cmp {op : CmpOp} {r : R2} {rd : R2D} (ho : OpR X (compareOp op) r) (hr : SR2 X.K r rd) (ha : ED X a wa) (hb : ED X b wb) (hm : behindInMarks op b = false) : ED X (.Compare a [op] [b] pos) (dOp rd wa wb) := by
  obtain ⟨ta, pa, sa⟩ := ha.ex
  obtain ⟨tb, pb, sb⟩ := hb.ex
  exact ⟨_, pe_cmpR ho pa pb hm, .op hr sa sb⟩
theorem STt.test {K : PySem.W.Frag} {te : TE} (ha : SE K te we) : STt K (tTest te) (dTest we) := fun F H θ O σ δ S j s q Q k => by
  refine ha F H θ O σ δ _ j s q _ fun v x F1 H1 θ1 O1 g1 j1 r1 q1 => ?_
  obtain ⟨b, rfl, q1⟩ := q1
  exact ⟨b, r1.bl_inv, k b F1 H1 θ1 O1 g1 j1 q1⟩
theorem et_cmp {op : CmpOp} {r : R2} {rd : R2D} (ho : OpR X (compareOp op) r) (hr : SR2 X.K r rd) (ha : ED X a wa) (hb : ED X b wb) (hm : behindInMarks op b = false) : EDT X (.Compare a [op] [b] pos) (dTest (dOp rd wa wb)) := by
  obtain ⟨ta, pa, sa⟩ := ha.ex
  obtain ⟨tb, pb, sb⟩ := hb.ex
  exact ⟨_, pt_cmpR ho pa pb hm, .test (.op hr sa sb)⟩
theorem et_val {te : Expr} (h : ED X te we) (he : ∀ whole, isTrue te X.env whole = (do let v ← whole; standAt te.pos; holding [v] (truthy v)) := by intro _; rfl) : EDT X te (dTest we) := by
  obtain ⟨t, p, s⟩ := h.ex
  exact ⟨_, pt_val p he, .test s⟩
theorem et_not (h : EDT X a wt) : EDT X (.UnaryOp .Not a pos) (dNot wt) := by
  obtain ⟨t, p, s⟩ := h.ex
  refine ⟨_, pt_not p, fun F H θ O σ δ S j s' q Q k => ?_⟩
  exact s F H θ O σ δ _ j s' q _ fun b F1 H1 θ1 O1 g1 j1 q1 => k (!b) F1 H1 θ1 O1 g1 j1 q1
theorem ed_if (hc : EDT X c wt) (ha : ED X a wa) (hb : ED X b wb) : ED X (.IfExp c a b pos) (dIfE wt wa wb) := by
  obtain ⟨tc, pc, sc⟩ := hc.ex
  obtain ⟨ta, pa, sa⟩ := ha.ex
  obtain ⟨tb, pb, sb⟩ := hb.ex
  refine ⟨_, pe_ifExp pc pa pb, fun F H θ O σ δ S j s q Q k => ?_⟩
  refine sc F H θ O σ δ _ j s q _ fun b F1 H1 θ1 O1 g1 j1 q1 => ?_
  cases b with
  | true => exact sa F1 H1 θ1 O1 σ δ S j1 (s.mono g1) q1 Q fun v w F2 H2 θ2 O2 g2 j2 r2 q2 => k v w F2 H2 θ2 O2 (g1.trans g2) j2 r2 q2
  | false => exact sb F1 H1 θ1 O1 σ δ S j1 (s.mono g1) q1 Q fun v w F2 H2 θ2 O2 g2 j2 r2 q2 => k v w F2 H2 θ2 O2 (g1.trans g2) j2 r2 q2
/-- and, or: in tests -/
structure EDW (X : Cx) (e : Expr) (wt : DT) : Prop where
  ex : ∃ tt, PW X e tt ∧ STt X.K tt wt
theorem EDW.t (h : EDW X e wt) : EDT X e wt := let ⟨t, p, s⟩ := h.ex; ⟨t, p.pt, s⟩
theorem ew_and1 (h : EDT X a wt) : EDW X (.BoolOp .And [a] pos) wt := let ⟨t, p, s⟩ := h.ex; ⟨t, pw_and1 p, s⟩
theorem ew_or1 (h : EDT X a wt) : EDW X (.BoolOp .Or [a] pos) wt := let ⟨t, p, s⟩ := h.ex; ⟨t, pw_or1 p, s⟩
theorem ew_and {rest : List Expr} (h : EDT X a wt) (hr : EDW X (.BoolOp .And (b :: rest) pos) wu) : EDW X (.BoolOp .And (a :: b :: rest) pos) (dAnd wt wu) := by
  obtain ⟨t, p, s⟩ := h.ex
  obtain ⟨t2, p2, s2⟩ := hr.ex
  refine ⟨_, pw_and p p2, fun F H θ O σ δ S j r q Q k => ?_⟩
  refine s F H θ O σ δ _ j r q _ fun b F1 H1 θ1 O1 g1 j1 q1 => ?_
  cases b with
  | true => exact s2 F1 H1 θ1 O1 σ δ S j1 (r.mono g1) q1 Q fun b F2 H2 θ2 O2 g2 j2 q2 => k b F2 H2 θ2 O2 (g1.trans g2) j2 q2
  | false => exact k false F1 H1 θ1 O1 g1 j1 q1
theorem ew_or {rest : List Expr} (h : EDT X a wt) (hr : EDW X (.BoolOp .Or (b :: rest) pos) wu) : EDW X (.BoolOp .Or (a :: b :: rest) pos) (dOr wt wu) := by
  obtain ⟨t, p, s⟩ := h.ex
  obtain ⟨t2, p2, s2⟩ := hr.ex
  refine ⟨_, pw_or p p2, fun F H θ O σ δ S j r q Q k => ?_⟩
  refine s F H θ O σ δ _ j r q _ fun b F1 H1 θ1 O1 g1 j1 q1 => ?_
  cases b with
  | true => exact k true F1 H1 θ1 O1 g1 j1 q1
  | false => exact s2 F1 H1 θ1 O1 σ δ S j1 (r.mono g1) q1 Q fun b F2 H2 θ2 O2 g2 j2 q2 => k b F2 H2 θ2 O2 (g1.trans g2) j2 q2
/-! arguments, displays -/
theorem ea_nil : EDA X [] dNil := ⟨_, pa_nil, fun F H θ O σ δ S j s q Q k => k [] [] F H θ O Gr.refl j .nil q⟩
theorem ea_cons (h : ED X e we) (hr : EDA X es wr) (hs : starEach (e :: es) X.env = (false, eval e X.env) :: starEach es X.env := by rfl) : EDA X (e :: es) (dCons we wr) := by
  obtain ⟨t, p, s⟩ := h.ex
  obtain ⟨t2, p2, s2⟩ := hr.ex
  refine ⟨_, pa_cons p p2 hs, fun F H θ O σ δ S j r q Q k => ?_⟩
  refine s F H θ O σ δ _ j r q _ fun v w F1 H1 θ1 O1 g1 j1 r1 q1 => ?_
  exact s2 F1 H1 θ1 O1 σ δ _ j1 (r.mono g1) q1 _ fun vs ws F2 H2 θ2 O2 g2 j2 r2 q2 => k _ _ F2 H2 θ2 O2 (g1.trans g2) j2 (.cons (r1.mono g2) r2) q2
theorem ed_tup {x1} (h : EDA X es wr) : ED X (.Tuple es x1 pos) (dTup wr) := by
  obtain ⟨t, p, s⟩ := h.ex
  refine ⟨_, pe_tup p, fun F H θ O σ δ S j r q Q k => ?_⟩
  refine s F H θ O σ δ _ j r q _ fun vs ws F1 H1 θ1 O1 g1 j1 r1 q1 => ⟨by rw [r1.length]; exact q1.1, fun p hp => ?_⟩
  have g2 : Gr F1 θ1 (L2.upd F1 p (.tup vs)) θ1 := Gr.upd (j1.freeF hp)
  exact k _ _ _ _ _ _ (g1.trans g2) (j1.newT hp) (.tup (.inl (.inl upd_same)) (r1.mono g2)) q1.2
theorem ed_lst (h : EDA X es wr) : ED X (.List es pos) (dLst wr) := by
  obtain ⟨t, p, s⟩ := h.ex
  refine ⟨_, pe_lst p, fun F H θ O σ δ S j r q Q k => ?_⟩
  refine s F H θ O σ δ _ j r q _ fun vs ws F1 H1 θ1 O1 g1 j1 r1 q1 => ⟨by rw [r1.length]; exact q1.1, fun p hp => ?_⟩
  exact k _ _ _ _ _ _ (g1.trans Gr.push) (j1.newL hp r1) (.cell (by rw [← j1.len]; simp)) q1.2
end
end Dm

set_option Elab.async false
set_option linter.all false
set_option maxRecDepth 100000
set_option maxHeartbeats 4000000
/-! The data machine: statements, loops, calls. -/
namespace Dm
open PySem PySem.Spec PyProof.Rows L2

structure DEnds where
  nx : DS → Sto → Prop
  rt : WK
  bk : DS → Sto → Prop := fun _ _ => False
  ct : DS → Sto → Prop := fun _ _ => False
abbrev DTS := DEnds → DS → Sto → Prop
/-- the ends over the heap follow from those over the data -/
structure Lk (K : PySem.W.Frag) (F : Hp) (θ : List Addr) (D : DEnds) (D' : Ends) : Prop where
  nx : ∀ F' H' θ' O' σ δ, Gr F θ F' θ' → Jn K F' H' θ' O' → RS K F' θ' σ δ → D.nx δ O' → D'.nx σ H'
  rt : ∀ F' H' θ' O' v w, Gr F θ F' θ' → Jn K F' H' θ' O' → RW K F' θ' v w → D.rt w O' → D'.rt v H'
  bk : ∀ F' H' θ' O' σ δ, Gr F θ F' θ' → Jn K F' H' θ' O' → RS K F' θ' σ δ → D.bk δ O' → D'.bk σ H'
  ct : ∀ F' H' θ' O' σ δ, Gr F θ F' θ' → Jn K F' H' θ' O' → RS K F' θ' σ δ → D.ct δ O' → D'.ct σ H'
theorem Lk.mono {K : PySem.W.Frag} {F F1 : Hp} {θ θ1 : List Addr} {D : DEnds} {D' : Ends} (l : Lk K F θ D D') (g : Gr F θ F1 θ1) : Lk K F1 θ1 D D' :=
  ⟨fun F' H' θ' O' σ δ g2 => l.nx F' H' θ' O' σ δ (g.trans g2), fun F' H' θ' O' v w g2 => l.rt F' H' θ' O' v w (g.trans g2),
    fun F' H' θ' O' σ δ g2 => l.bk F' H' θ' O' σ δ (g.trans g2), fun F' H' θ' O' σ δ g2 => l.ct F' H' θ' O' σ δ (g.trans g2)⟩
def SS (K : PySem.W.Frag) (ts : TS) (ws : DTS) : Prop := ∀ F H θ O σ δ D D', Jn K F H θ O → RS K F θ σ δ → ws D δ O → Lk K F θ D D' → ts D' σ H
structure EDS (X : Cx) (st : Stmt) (ws : DTS) : Prop where
  ex : ∃ ts, PS X st ts ∧ SS X.K ts ws
structure EDB (X : Cx) (st : List Stmt) (ws : DTS) : Prop where
  ex : ∃ ts, PSs X st ts ∧ SS X.K ts ws
/-- a target: the value stored, what is then -/
abbrev DG := W → DS → Sto → (DS → Sto → Prop) → Prop
def SG (K : PySem.W.Frag) (g : TG) (gd : DG) : Prop := ∀ F H θ O σ δ v w S, Jn K F H θ O → RS K F θ σ δ → RW K F θ v w → gd w δ O S → ∀ Q : L2.St → Hp → Prop,
  (∀ F' H' θ' O' σ' δ', Gr F θ F' θ' → Jn K F' H' θ' O' → RS K F' θ' σ' δ' → S δ' O' → Q σ' H') → g v σ H Q
structure EDG (X : Cx) (tg : Expr) (gd : DG) : Prop where
  ex : ∃ g, PG X tg g ∧ SG X.K g gd

def dNext : DTS := fun D δ O => D.nx δ O
def dSeq (w1 w2 : DTS) : DTS := fun D δ O => w1 { D with nx := w2 D } δ O
def dIf (wt : DT) (w1 w2 : DTS) : DTS := fun D δ O => wt δ O fun b O1 => if b = true then w1 D δ O1 else w2 D δ O1
def dRet (we : DE) : DTS := fun D δ O => we δ O D.rt
def dRetN : DTS := fun D _ O => D.rt .non O
def dDrop (we : DE) : DTS := fun D δ O => we δ O fun _ O1 => D.nx δ O1
def dSet (i : Nat) (we : DE) : DTS := fun D δ O => we δ O fun w O1 => D.nx (δ.set i (some w)) O1
def dPar (i j : Nat) (wa : DA) : DTS := fun D δ O => wa δ O fun ws O1 => ∃ v u, ws = [v, u] ∧ D.nx ((δ.set i (some v)).set j (some u)) O1
def dNever : DTS := fun _ _ _ => False
def dBreak : DTS := fun D δ O => D.bk δ O
def dCont : DTS := fun D δ O => D.ct δ O
def dgName (i : Nat) : DG := fun w δ O S => S (δ.set i (some w)) O
abbrev DGs := List W → DS → Sto → (DS → Sto → Prop) → Prop
def SGs (K : PySem.W.Frag) (g : TGs) (gd : DGs) : Prop := ∀ F H θ O σ δ v w S, Jn K F H θ O → RS K F θ σ δ → RWs K F θ v w → gd w δ O S → ∀ Q : L2.St → Hp → Prop,
  (∀ F' H' θ' O' σ' δ', Gr F θ F' θ' → Jn K F' H' θ' O' → RS K F' θ' σ' δ' → S δ' O' → Q σ' H') → g v σ H Q
structure EDGs (X : Cx) (tg : List Expr) (gd : DGs) : Prop where
  ex : ∃ g, PGs X tg g ∧ SGs X.K g gd
def dgNil : DGs := fun ws δ O S => ws = [] ∧ S δ O
def dgCons (g : DG) (gs : DGs) : DGs := fun ws δ O S => ∃ w r, ws = w :: r ∧ g w δ O fun δ' O' => gs r δ' O' S
def dgTup (n : Nat) (gs : DGs) : DG := fun w δ O S => ∃ ws, w = .tup ws ∧ ws.length = n ∧ gs ws δ O S
def dAsg (we : DE) (g : DG) : DTS := fun D δ O => we δ O fun w O1 => g w δ O1 D.nx

section
variable {X : Cx} {st : Stmt} {rest : List Stmt} {w1 w2 : DTS} {wt : DT} {we : DE} {wr : DA} {c e : Expr} {es : List Expr} {pos : Pos}
theorem eb_nil : EDB X [] dNext := ⟨_, pss_nil, fun F H θ O σ δ D D' j s q l => l.nx F H θ O σ δ Gr.refl j s q⟩
theorem eb_cons (h : EDS X st w1) (hr : EDB X rest w2) : EDB X (st :: rest) (dSeq w1 w2) := by
  obtain ⟨t1, p1, s1⟩ := h.ex
  obtain ⟨t2, p2, s2⟩ := hr.ex
  refine ⟨_, pss_cons p1 p2, fun F H θ O σ δ D D' j s q l => ?_⟩
  exact s1 F H θ O σ δ _ _ j s q ⟨fun F' H' θ' O' σ' δ' g j' s' q' => s2 F' H' θ' O' σ' δ' D D' j' s' q' (l.mono g), l.rt, l.bk, l.ct⟩
theorem eb_one (h : EDS X st w1) : EDB X [st] w1 := by
  obtain ⟨t1, p1, s1⟩ := h.ex
  exact ⟨_, pss_one p1, s1⟩
theorem eb_never : EDB X rest dNever := ⟨_, pss_never, fun F H θ O σ δ D D' j s q l => q.elim⟩
theorem es_never : EDS X st dNever := ⟨_, ps_never, fun F H θ O σ δ D D' j s q l => q.elim⟩
theorem es_pass : EDS X (.Pass pos) dNext := ⟨_, ps_pass, fun F H θ O σ δ D D' j s q l => l.nx F H θ O σ δ Gr.refl j s q⟩
theorem es_break : EDS X (.Break pos) dBreak := ⟨_, ps_break, fun F H θ O σ δ D D' j s q l => l.bk F H θ O σ δ Gr.refl j s q⟩
theorem es_cont : EDS X (.Continue pos) dCont := ⟨_, ps_continue, fun F H θ O σ δ D D' j s q l => l.ct F H θ O σ δ Gr.refl j s q⟩
theorem es_doc {x j pos pos'} : EDS X (.Expr (.Constant (.str x) j pos) pos') dNext := ⟨_, ps_doc, fun F H θ O σ δ D D' j s q l => l.nx F H θ O σ δ Gr.refl j s q⟩
theorem es_if {a b : List Stmt} (hc : EDT X c wt) (ha : EDB X a w1) (hb : EDB X b w2) : EDS X (.If c a b pos) (dIf wt w1 w2) := by
  obtain ⟨t0, p0, s0⟩ := hc.ex
  obtain ⟨t1, p1, s1⟩ := ha.ex
  obtain ⟨t2, p2, s2⟩ := hb.ex
  refine ⟨_, ps_if p0 p1 p2, fun F H θ O σ δ D D' j s q l => ?_⟩
  refine s0 F H θ O σ δ _ j s q _ fun b F1 H1 θ1 O1 g1 j1 q1 => ?_
  cases b with
  | true => exact s1 F1 H1 θ1 O1 σ δ D D' j1 (s.mono g1) q1 (l.mono g1)
  | false => exact s2 F1 H1 θ1 O1 σ δ D D' j1 (s.mono g1) q1 (l.mono g1)
theorem es_ret (h : ED X e we) : EDS X (.Return (some e) pos) (dRet we) := by
  obtain ⟨t0, p0, s0⟩ := h.ex
  refine ⟨_, ps_ret p0, fun F H θ O σ δ D D' j s q l => ?_⟩
  exact s0 F H θ O σ δ _ j s q _ fun v w F1 H1 θ1 O1 g1 j1 r1 q1 => l.rt F1 H1 θ1 O1 v w g1 j1 r1 q1
theorem es_retN : EDS X (.Return none pos) dRetN := ⟨_, ps_retN, fun F H θ O σ δ D D' j s q l => l.rt F H θ O .non .non Gr.refl j .non q⟩
theorem es_expr (h : ED X e we) (hs : swapsWith e none pos.line X.env = pure false := by rfl) : EDS X (.Expr e pos) (dDrop we) := by
  obtain ⟨t0, p0, s0⟩ := h.ex
  refine ⟨_, ps_expr p0 hs, fun F H θ O σ δ D D' j s q l => ?_⟩
  exact s0 F H θ O σ δ _ j s q _ fun v w F1 H1 θ1 O1 g1 j1 r1 q1 => l.nx F1 H1 θ1 O1 σ δ g1 j1 (s.mono g1) q1
theorem es_set {i : Nat} {x : Str} {pos' : Pos} (hN : X.N.Nodup) (hi : X.N[i]? = some x) (hx : Loc X.env.scope x) (h : ED X e we) (hs : swapsWith e (some (.Name x pos')) pos.line X.env = pure false := by rfl)
    (hf : X.fn x = true ∨ X.env.scope.names.lookup x = some .local := by first | exact .inl rfl | exact .inr rfl | assumption) : EDS X (.Assign [.Name x pos'] e pos) (dSet i we) := by
  obtain ⟨t0, p0, s0⟩ := h.ex
  refine ⟨_, ps_set hN hi hx p0 hs hf, fun F H θ O σ δ D D' j s q l => ?_⟩
  exact s0 F H θ O σ δ _ j s q _ fun v w F1 H1 θ1 O1 g1 j1 r1 q1 => l.nx F1 H1 θ1 O1 _ _ g1 j1 ((s.mono g1).set i r1) q1
theorem es_par {i j : Nat} {x y : Str} {a b : Expr} {px py pt : Pos} {kt k2 pt2} (hc : X.calm = true) (hN : X.N.Nodup) (hi : X.N[i]? = some x) (hj : X.N[j]? = some y) (hij : i ≠ j)
    (hx : X.env.scope.names.lookup x = some .local) (hy : X.env.scope.names.lookup y = some .local) (ha : EDA X [a, b] wr)
    (hw : swappedStores [.Tuple [.Name x px, .Name y py] kt pt] (.Tuple [a, b] k2 pt2) X.env = pure (some [x, y]) := by rfl)
    (hs : swapsWithSole [.Tuple [.Name x px, .Name y py] kt pt] (.Tuple [a, b] k2 pt2) pos.line X.env = pure false := by rfl) :
    EDS X (.Assign [.Tuple [.Name x px, .Name y py] kt pt] (.Tuple [a, b] k2 pt2) pos) (dPar i j wr) := by
  obtain ⟨t0, p0, s0⟩ := ha.ex
  refine ⟨_, ps_par hc hN hi hj hij hx hy p0 hw hs, fun F H θ O σ δ D D' jn s q l => ?_⟩
  refine s0 F H θ O σ δ _ jn s q _ fun vs ws F1 H1 θ1 O1 g1 j1 r1 q1 => ?_
  obtain ⟨w, z, rfl, q1⟩ := q1
  obtain ⟨v, u, rfl, rv, ru⟩ := r1.two_inv
  exact ⟨v, u, rfl, l.nx F1 H1 θ1 O1 _ _ g1 j1 (((s.mono g1).set i rv).set j ru) q1⟩
theorem eg_name {i : Nat} {x : Str} (hN : X.N.Nodup) (hi : X.N[i]? = some x) (hx : Loc X.env.scope x) (hf : X.fn x = true ∨ X.env.scope.names.lookup x = some .local := by first | exact .inl rfl | exact .inr rfl | assumption) : EDG X (.Name x pos) (dgName i) :=
  ⟨_, pg_name hN hi hx hf, fun F H θ O σ δ v w S j s r q Q k => k F H θ O _ _ Gr.refl j (s.set i r) q⟩
theorem egs_nil : EDGs X [] dgNil := ⟨_, pgs_nil, fun F H θ O σ δ v w S j s r q Q k => by
  obtain ⟨rfl, q⟩ := q
  cases r
  exact ⟨rfl, k F H θ O _ _ Gr.refl j s q⟩⟩
theorem egs_cons {g : DG} {gs : DGs} (h : EDG X e g) (hr : EDGs X es gs) (hs : (assignEach (e :: es) X.env).map (·.2) = assign e X.env :: (assignEach es X.env).map (·.2) := by rfl) : EDGs X (e :: es) (dgCons g gs) := by
  obtain ⟨t0, p0, s0⟩ := h.ex
  obtain ⟨t1, p1, s1⟩ := hr.ex
  refine ⟨_, pgs_cons p0 p1 hs, fun F H θ O σ δ v w S j s r q Q k => ?_⟩
  obtain ⟨w, z, rfl, q⟩ := q
  cases r with
  | cons r rr =>
    refine ⟨_, _, rfl, s0 F H θ O σ δ _ _ _ j s r q _ fun F1 H1 θ1 O1 σ1 δ1 g1 j1 s1' q1 => ?_⟩
    exact s1 F1 H1 θ1 O1 σ1 δ1 _ _ _ j1 s1' (rr.mono g1) q1 _ fun F2 H2 θ2 O2 σ2 δ2 g2 j2 s2 q2 => k F2 H2 θ2 O2 σ2 δ2 (g1.trans g2) j2 s2 q2
theorem eg_tup {k : Nat} {gs : DGs} {n : Nat} (hc : X.calm = true) (h : EDGs X es gs) (hn : (assignEach es X.env).length = n := by rfl) (hst : (assignEach es X.env).findIdx? (·.1) = none := by rfl) : EDG X (.Tuple es k pos) (dgTup n gs) := by
  obtain ⟨t0, p0, s0⟩ := h.ex
  refine ⟨_, pg_tup hc p0 hn hst, fun F H θ O σ δ v w S j s r q Q k => ?_⟩
  obtain ⟨ws, rfl, hl, q⟩ := q
  obtain ⟨a, vs, rfl, hq, rr⟩ := r.tup_inv
  exact ⟨a, vs, rfl, sqT_sub j hq, by rw [rr.length]; exact hl, s0 F H θ O σ δ _ _ _ j s rr q _ k⟩
theorem es_asg {tg : Expr} {g : DG} (he : ED X e we) (hg : EDG X tg g) (hs : swapsWithSole [tg] e pos.line X.env = pure false := by rfl) (hw : swappedStores [tg] e X.env = pure none := by rfl)
    (h1 : (assignEach [tg] X.env).map (·.2) = [assign tg X.env] := by rfl) : EDS X (.Assign [tg] e pos) (dAsg we g) := by
  obtain ⟨t0, p0, s0⟩ := he.ex
  obtain ⟨t1, p1, s1⟩ := hg.ex
  refine ⟨_, ps_asg p0 p1 hs hw h1, fun F H θ O σ δ D D' j s q l => ?_⟩
  refine s0 F H θ O σ δ _ j s q _ fun v w F1 H1 θ1 O1 g1 j1 r1 q1 => ?_
  exact s1 F1 H1 θ1 O1 σ δ _ _ _ j1 (s.mono g1) r1 q1 _ fun F2 H2 θ2 O2 σ2 δ2 g2 j2 s2 q2 => l.nx F2 H2 θ2 O2 σ2 δ2 (g1.trans g2) j2 s2 q2
end

/-! ### what is walked -/
/-- the items of a walk: the one at turn i (none: it stops) -/
structure Wk where
  at_ : Nat → Sto → Option W
  ok : Sto → Prop := fun _ => True
def SI (K : PySem.W.Frag) (wi : TI) (di : DS → Sto → (Wk → Sto → Prop) → Prop) : Prop := ∀ F H θ O σ δ S, Jn K F H θ O → RS K F θ σ δ → di δ O S → ∀ R : It → Hp → Prop,
  (∀ J w F' H' θ' O', Gr F θ F' θ' → Jn K F' H' θ' O' → S w O' →
    (∀ i F2 H2 θ2 O2, Gr F' θ' F2 θ2 → Jn K F2 H2 θ2 O2 → w.ok O2 → ((w.at_ i O2 = none ∧ J.stop i H2) ∨ ∃ z, w.at_ i O2 = some z ∧ J.go i H2 ∧ ∀ x H3, J.yld i H2 x H3 → ∃ F3 θ3, Gr F2 θ2 F3 θ3 ∧ Jn K F3 H3 θ3 O2 ∧ RW K F3 θ3 x z)) → R J H') → wi σ H R
structure EDI (X : Cx) (tg iter : Expr) (di : DS → Sto → (Wk → Sto → Prop) → Prop) : Prop where
  ex : ∃ wi, PI X tg iter wi ∧ SI X.K wi di
/-- n turns at most, an invariant over the turn, the slots, the store -/
def dFor (di : DS → Sto → (Wk → Sto → Prop) → Prop) (g : DG) (wb : DTS) : DTS := fun D δ O => di δ O fun w O1 => ∃ (n : Nat) (Pv : Nat → DS → Sto → Prop), Pv 0 δ O1 ∧
  ∀ i δ O, Pv i δ O → i ≤ n ∧ w.ok O ∧ (match w.at_ i O with
    | none => D.nx δ O
    | some z => i < n ∧ g z δ O fun δ2 O2 => wb { D with nx := Pv (i + 1), ct := Pv (i + 1), bk := D.nx } δ2 O2)
theorem es_for {X : Cx} {tg iter : Expr} {body : List Stmt} {di : DS → Sto → (Wk → Sto → Prop) → Prop} {g : DG} {wb : DTS} {pos : Pos} (hp : PassesOwn (model X.prog X.w) X.A X.env X.xe) (hc : X.calm = true) (hi : EDI X tg iter di) (hg : EDG X tg g) (hb : EDB X body wb)
    (hs : ∀ x, foldedSetIterable iter X.env x = pure x := by intro _; rfl) : EDS X (.For tg iter body [] pos) (dFor di g wb) := by
  obtain ⟨t0, p0, s0⟩ := hi.ex
  obtain ⟨t1, p1, s1⟩ := hg.ex
  obtain ⟨t2, p2, s2⟩ := hb.ex
  refine ⟨_, ps_for hp hc p0 p1 p2 hs, fun F H θ O σ δ D D' j s q l => ?_⟩
  refine s0 F H θ O σ δ _ j s q _ fun J w F1 H1 θ1 O1 g1 j1 q1 turn => ?_
  obtain ⟨n, Pv, h0, hq⟩ := q1
  refine ⟨fun i m σ' H' => m = n - i ∧ ∃ F' θ' O' δ', Gr F1 θ1 F' θ' ∧ Jn X.K F' H' θ' O' ∧ RS X.K F' θ' σ' δ' ∧ Pv i δ' O', ⟨n, by omega, F1, θ1, O1, δ, Gr.refl, j1, s.mono g1, h0⟩, ?_⟩
  rintro i m σ2 H2 ⟨rfl, F2, θ2, O2, δ2, g2, j2, s2', pv⟩
  obtain ⟨hin, hok, hm⟩ := hq i δ2 O2 pv
  rcases turn i F2 H2 θ2 O2 g2 j2 hok with ⟨e, st⟩ | ⟨z, e, go, yl⟩
  · rw [e] at hm
    exact .inl ⟨st, l.nx F2 H2 θ2 O2 σ2 δ2 (g1.trans g2) j2 s2' hm⟩
  · rw [e] at hm
    obtain ⟨hlt, hm⟩ := hm
    refine .inr ⟨go, fun σ' H' => ∃ F' θ' O' δ', Gr F1 θ1 F' θ' ∧ Jn X.K F' H' θ' O' ∧ RS X.K F' θ' σ' δ' ∧ Pv (i + 1) δ' O', fun σ' H' h => ⟨n - (i + 1), by omega, rfl, h⟩, fun x H3 hy => ?_⟩
    obtain ⟨F3, θ3, g3, j3, r3⟩ := yl x H3 hy
    refine s1 F3 H3 θ3 O2 σ2 δ2 x z _ j3 (s2'.mono g3) r3 hm _ fun F4 H4 θ4 O4 σ4 δ4 g4 j4 s4 q4 => ?_
    have gg : Gr F1 θ1 F4 θ4 := (g2.trans g3).trans g4
    refine s2 F4 H4 θ4 O4 σ4 δ4 _ _ j4 s4 q4 ⟨fun F' H' θ' O' σ' δ' g' j' s' q' => ⟨F', θ', O', δ', gg.trans g', j', s', q'⟩, fun F' H' θ' O' v w' g' j' r' q' => l.rt F' H' θ' O' v w' ((g1.trans gg).trans g') j' r' q', fun F' H' θ' O' σ' δ' g' j' s' q' => l.nx F' H' θ' O' σ' δ' ((g1.trans gg).trans g') j' s' q', fun F' H' θ' O' σ' δ' g' j' s' q' => ⟨F', θ', O', δ', gg.trans g', j', s', q'⟩⟩

/-- over ints lo, lo + 1, .. -/
def wkR (lo : Int) (n : Nat) : Wk := ⟨fun i _ => if i < n then some (.int (lo + i)) else none, fun _ => True⟩
def wkT (ws : List W) : Wk := ⟨fun i _ => ws[i]?, fun _ => True⟩
/-- the list in a cell, as it stands -/
def wkL (k : Nat) : Wk := ⟨fun i O => match O[k]? with
  | some (.lst ws) => ws[i]?
  | some (.rol ws) => ws[i]?
  | _ => none, fun O => ∃ ws, LstC O k ws⟩
theorem wkL_at {k : Nat} {i : Nat} {O : Sto} {ws : List W} (h : LstC O k ws) : (wkL k).at_ i O = ws[i]? := by
  show (match O[k]? with
    | some (.lst ws) => ws[i]?
    | some (.rol ws) => ws[i]?
    | _ => none) = ws[i]?
  rcases h with h | h <;> rw [h]
def diR1 (wa : DA) : DS → Sto → (Wk → Sto → Prop) → Prop := fun δ O S => wa δ O fun ws O1 => ∃ j : Int, ws = [.int j] ∧ -(2 ^ 62) ≤ j ∧ j < 2 ^ 62 ∧ S (wkR 0 j.toNat) O1
def diR2 (wa : DA) : DS → Sto → (Wk → Sto → Prop) → Prop := fun δ O S => wa δ O fun ws O1 => ∃ i j : Int, ws = [.int i, .int j] ∧ (-(2 ^ 62) ≤ i ∧ i < 2 ^ 62 ∧ -(2 ^ 62) ≤ j ∧ j < 2 ^ 62) ∧ S (wkR i (j - i).toNat) O1
def diT (we : DE) : DS → Sto → (Wk → Sto → Prop) → Prop := fun δ O S => we δ O fun w O1 => ∃ ws, w = .tup ws ∧ S (wkT ws) O1
def diL (we : DE) : DS → Sto → (Wk → Sto → Prop) → Prop := fun δ O S => we δ O fun w O1 => ∃ k ws, w = .cell k ∧ LstC O1 k ws ∧ S (wkL k) O1
theorem turnR {K : PySem.W.Frag} {lo : Int} {n : Nat} {i : Nat} {F2 H2 : Hp} {θ2 : List Addr} {O2 : Sto} (j2 : Jn K F2 H2 θ2 O2) :
    ((wkR lo n).at_ i O2 = none ∧ (Itr lo n).stop i H2) ∨ ∃ z, (wkR lo n).at_ i O2 = some z ∧ (Itr lo n).go i H2 ∧ ∀ x H3, (Itr lo n).yld i H2 x H3 → ∃ F3 θ3, Gr F2 θ2 F3 θ3 ∧ Jn K F3 H3 θ3 O2 ∧ RW K F3 θ3 x z := by
  by_cases h : i < n
  · refine .inr ⟨.int (lo + i), if_pos h, h, fun x H3 hy => ?_⟩
    obtain ⟨rfl, rfl⟩ := hy
    exact ⟨F2, θ2, Gr.refl, j2, .int _⟩
  · exact .inl ⟨if_neg h, by show n ≤ i; omega⟩
section
variable {X : Cx} {tg a b e : Expr} {wa : DA} {we : DE} {p pos : Pos}
theorem ei_range1 (hg : Gl X "range") (hm : X.mg "range" = none) (ha : EDA X [a] wa) (hs : starEach [a] X.env = [(false, eval a X.env)] := by rfl) : EDI X tg (.Call (.Name "range" p) [a] [] pos) (diR1 wa) := by
  obtain ⟨t0, p0, s0⟩ := ha.ex
  refine ⟨_, pi_range1 hg hm p0 hs, fun F H θ O σ δ S j s q R k => ?_⟩
  refine s0 F H θ O σ δ _ j s q _ fun vs ws F1 H1 θ1 O1 g1 j1 r1 q1 => ?_
  obtain ⟨n, rfl, h1, h2, q1⟩ := q1
  obtain ⟨v, rfl, r⟩ := r1.one_inv
  rw [r.int_inv]
  exact ⟨n, rfl, h1, h2, k _ _ F1 H1 θ1 O1 g1 j1 q1 fun i F2 H2 θ2 O2 _ j2 _ => turnR j2⟩
theorem ei_range2 (hg : Gl X "range") (hm : X.mg "range" = none) (ha : EDA X [a, b] wa) (hs : starEach [a, b] X.env = [(false, eval a X.env), (false, eval b X.env)] := by rfl) (hs2 : starEach [b] X.env = [(false, eval b X.env)] := by rfl) : EDI X tg (.Call (.Name "range" p) [a, b] [] pos) (diR2 wa) := by
  obtain ⟨t0, p0, s0⟩ := ha.ex
  refine ⟨_, pi_range2 hg hm p0 hs hs2, fun F H θ O σ δ S j s q R k => ?_⟩
  refine s0 F H θ O σ δ _ j s q _ fun vs ws F1 H1 θ1 O1 g1 j1 r1 q1 => ?_
  obtain ⟨n, m, rfl, h1, q1⟩ := q1
  obtain ⟨v, u, rfl, r, r'⟩ := r1.two_inv
  rw [r.int_inv, r'.int_inv]
  exact ⟨n, m, rfl, h1, k _ _ F1 H1 θ1 O1 g1 j1 q1 fun i F2 H2 θ2 O2 _ j2 _ => turnR j2⟩
theorem ei_tup (h : ED X e we) : EDI X tg e (diT we) := by
  obtain ⟨t0, p0, s0⟩ := h.ex
  refine ⟨_, pi_tup p0, fun F H θ O σ δ S j s q R k => ?_⟩
  refine s0 F H θ O σ δ _ j s q _ fun v w F1 H1 θ1 O1 g1 j1 r1 q1 => ?_
  obtain ⟨ws, rfl, q1⟩ := q1
  obtain ⟨a, vs, rfl, hq, rr⟩ := r1.tup_inv
  refine ⟨a, rfl, ⟨vs, sqT_sub j1 hq⟩, k _ _ F1 H1 θ1 O1 g1 j1 q1 fun i F2 H2 θ2 O2 g2 j2 _ => ?_⟩
  have hq2 : SqT X.K H2 a vs := sqT_sub j2 (sqT_fz g2.fz hq)
  have rr2 := rr.mono g2
  show (ws[i]? = none ∧ _) ∨ ∃ z, ws[i]? = some z ∧ _
  cases h : ws[i]? with
  | none => exact .inl ⟨rfl, vs, hq2, by rw [rr.length]; exact List.getElem?_eq_none_iff.mp h⟩
  | some z =>
    obtain ⟨v, ev, rv⟩ := rr2.get h
    refine .inr ⟨z, rfl, ⟨vs, v, hq2, ev⟩, fun x H3 hy => ?_⟩
    obtain ⟨rfl, hx⟩ := hy
    have e2 := (hx vs hq2).symm.trans ev
    cases e2
    exact ⟨F2, θ2, Gr.refl, j2, rv⟩
theorem ei_lst (h : ED X e we) : EDI X tg e (diL we) := by
  obtain ⟨t0, p0, s0⟩ := h.ex
  refine ⟨_, pi_list p0, fun F H θ O σ δ S j s q R k => ?_⟩
  refine s0 F H θ O σ δ _ j s q _ fun v w F1 H1 θ1 O1 g1 j1 r1 q1 => ?_
  obtain ⟨c, ws, rfl, hc, q1⟩ := q1
  obtain ⟨a, rfl, ha⟩ := r1.cell_inv
  obtain ⟨vs, hl, rr⟩ := j1.lstC ha hc
  refine ⟨a, rfl, ⟨vs, hl⟩, k _ _ F1 H1 θ1 O1 g1 j1 q1 fun i F2 H2 θ2 O2 g2 j2 ok => ?_⟩
  obtain ⟨zs, hz⟩ := ok
  rw [wkL_at hz]
  obtain ⟨us, hu, ru⟩ := j2.lstC (g2.at ha) hz
  cases h : zs[i]? with
  | none => exact .inl ⟨rfl, us, hu, by rw [ru.length]; exact List.getElem?_eq_none_iff.mp h⟩
  | some z =>
    obtain ⟨v, ev, rv⟩ := ru.get h
    refine .inr ⟨z, rfl, ⟨us, v, hu, ev⟩, fun x H3 hy => ?_⟩
    obtain ⟨rfl, hx⟩ := hy
    have e2 := (hx us hu).symm.trans ev
    cases e2
    exact ⟨F2, θ2, Gr.refl, j2, rv⟩
end

/-! ### comprehensions -/
def wipeD (δ : DS) : List Nat → DS
  | [] => δ
  | v :: vs => (wipeD δ vs).set v none
theorem wipeD_some {δ : DS} {i : Nat} {x : W} : ∀ {vs : List Nat}, (wipeD δ vs)[i]? = some (some x) → δ[i]? = some (some x) ∧ i ∉ vs
  | [], h => ⟨h, by simp⟩
  | v :: vs, h => by
    unfold wipeD at h
    by_cases hi : v = i
    · subst hi
      by_cases hv : v < (wipeD δ vs).length
      · rw [List.getElem?_set_self hv] at h; cases h
      · rw [List.getElem?_eq_none (by simpa using hv)] at h; cases h
    · rw [List.getElem?_set_ne hi] at h
      obtain ⟨h1, h2⟩ := wipeD_some h
      exact ⟨h1, by simp only [List.mem_cons, not_or]; exact ⟨fun e => hi e.symm, h2⟩⟩
theorem wipeD_len (δ : DS) : ∀ vs : List Nat, (wipeD δ vs).length = δ.length
  | [] => rfl
  | v :: vs => by unfold wipeD; rw [List.length_set, wipeD_len δ vs]
theorem wipe_keep {σ : L2.St} {i : Nat} : ∀ {vs : List Nat}, i ∉ vs → (wipe σ vs)[i]? = σ[i]?
  | [], _ => rfl
  | v :: vs, h => by
    simp only [List.mem_cons, not_or] at h
    unfold wipe
    rw [List.getElem?_set_ne (fun e => h.1 e.symm)]
    exact wipe_keep h.2
theorem RS.wipe {K : PySem.W.Frag} {F : Hp} {θ : List Addr} {σ : L2.St} {δ : DS} (h : RS K F θ σ δ) (vs : List Nat) : RS K F θ (L2.wipe σ vs) (wipeD δ vs) := by
  refine ⟨by rw [wipe_length, wipeD_len]; exact h.1, fun i w e => ?_⟩
  obtain ⟨e1, n⟩ := wipeD_some e
  rw [wipe_keep n]
  exact h.2 i w e1
/-- a target within a block: it stores at the block's own slots alone -/
def SGc (K : PySem.W.Frag) (g : TG) (gd : DG) (vs : List Nat) : Prop := ∀ F H θ O σ δ v w S, Jn K F H θ O → RS K F θ σ δ → RW K F θ v w → gd w δ O S → ∀ Q : L2.St → Hp → Prop,
  (∀ F' H' θ' O' σ' δ', Gr F θ F' θ' → Jn K F' H' θ' O' → RS K F' θ' σ' δ' → wipe σ' vs = wipe σ vs → S δ' O' → Q σ' H') → g v σ H Q
def SGsc (K : PySem.W.Frag) (g : TGs) (gd : DGs) (vs : List Nat) : Prop := ∀ F H θ O σ δ v w S, Jn K F H θ O → RS K F θ σ δ → RWs K F θ v w → gd w δ O S → ∀ Q : L2.St → Hp → Prop,
  (∀ F' H' θ' O' σ' δ', Gr F θ F' θ' → Jn K F' H' θ' O' → RS K F' θ' σ' δ' → wipe σ' vs = wipe σ vs → S δ' O' → Q σ' H') → g v σ H Q
theorem wipe_set {σ : L2.St} {i : Nat} {x : Option V} : ∀ {vs : List Nat}, i ∈ vs → wipe (σ.set i x) vs = wipe σ vs
  | [], h => by cases h
  | v :: vs, h => by
    unfold wipe
    by_cases e : v = i
    · subst e
      have : ∀ us : List Nat, (wipe (σ.set v x) us).set v none = (wipe σ us).set v none := by
        intro us
        induction us with
        | nil => unfold wipe; rw [List.set_set]
        | cons u us ih =>
          unfold wipe
          by_cases q : u = v
          · subst q
            rw [ih]
          · rw [List.set_comm _ _ q, ih, List.set_comm _ _ (fun z => q z.symm)]
      exact this vs
    · rw [wipe_set ((List.mem_cons.mp h).resolve_left fun z => e z.symm)]
theorem wipe_wipe (σ : L2.St) : ∀ vs : List Nat, wipe (wipe σ vs) vs = wipe σ vs := by
  have : ∀ (us vs : List Nat), (∀ u ∈ us, u ∈ vs) → wipe (wipe σ us) vs = wipe σ vs := by
    intro us
    induction us with
    | nil => intro vs _; rfl
    | cons u us ih =>
      intro vs h
      show wipe ((wipe σ us).set u none) vs = _
      rw [wipe_set (h u List.mem_cons_self)]
      exact ih vs fun z hz => h z (List.mem_cons_of_mem _ hz)
  exact fun vs => this vs vs fun _ h => h
structure EDTs (X : Cx) (ifs : List Expr) (wt : DT) : Prop where
  ex : ∃ tt, PTs X ifs tt ∧ STt X.K tt wt
structure EDGc (X : Cx) (vs : List Nat) (tg : Expr) (gd : DG) : Prop where
  ex : ∃ g, PG X tg g ∧ SGc X.K g gd vs
structure EDGsc (X : Cx) (vs : List Nat) (tg : List Expr) (gd : DGs) : Prop where
  ex : ∃ g, PGs X tg g ∧ SGsc X.K g gd vs
def dYes : DT := fun _ O S => S true O
theorem ets_nil {X : Cx} : EDTs X [] dYes := ⟨_, pts_nil, fun F H θ O σ δ S j s q Q k => k true F H θ O Gr.refl j q⟩
theorem ets_one {X : Cx} {c : Expr} {wt : DT} (h : EDT X c wt) : EDTs X [c] wt := let ⟨t, p, s⟩ := h.ex; ⟨t, pts_one p, s⟩
section
variable {X : Cx} {vs : List Nat} {e : Expr} {es : List Expr} {pos : Pos}
theorem egc_name {i : Nat} {x : Str} (hm : i ∈ vs) (hN : X.N.Nodup) (hi : X.N[i]? = some x) (hx : Loc X.env.scope x) (hf : X.fn x = true ∨ X.env.scope.names.lookup x = some .local := by first | exact .inl rfl | exact .inr rfl | assumption) : EDGc X vs (.Name x pos) (dgName i) :=
  ⟨_, pg_name hN hi hx hf, fun F H θ O σ δ v w S j s r q Q k => k F H θ O _ _ Gr.refl j (s.set i r) (wipe_set hm) q⟩
theorem egsc_nil : EDGsc X vs [] dgNil := ⟨_, pgs_nil, fun F H θ O σ δ v w S j s r q Q k => by
  obtain ⟨rfl, q⟩ := q
  cases r
  exact ⟨rfl, k F H θ O _ _ Gr.refl j s rfl q⟩⟩
theorem egsc_cons {g : DG} {gs : DGs} (h : EDGc X vs e g) (hr : EDGsc X vs es gs) (hs : (assignEach (e :: es) X.env).map (·.2) = assign e X.env :: (assignEach es X.env).map (·.2) := by rfl) : EDGsc X vs (e :: es) (dgCons g gs) := by
  obtain ⟨t0, p0, s0⟩ := h.ex
  obtain ⟨t1, p1, s1⟩ := hr.ex
  refine ⟨_, pgs_cons p0 p1 hs, fun F H θ O σ δ v w S j s r q Q k => ?_⟩
  obtain ⟨w, z, rfl, q⟩ := q
  cases r with
  | cons r rr =>
    refine ⟨_, _, rfl, s0 F H θ O σ δ _ _ _ j s r q _ fun F1 H1 θ1 O1 σ1 δ1 g1 j1 s1' e1 q1 => ?_⟩
    exact s1 F1 H1 θ1 O1 σ1 δ1 _ _ _ j1 s1' (rr.mono g1) q1 _ fun F2 H2 θ2 O2 σ2 δ2 g2 j2 s2 e2 q2 => k F2 H2 θ2 O2 σ2 δ2 (g1.trans g2) j2 s2 (e2.trans e1) q2
theorem egc_tup {k : Nat} {gs : DGs} {n : Nat} (hc : X.calm = true) (h : EDGsc X vs es gs) (hn : (assignEach es X.env).length = n := by rfl) (hst : (assignEach es X.env).findIdx? (·.1) = none := by rfl) : EDGc X vs (.Tuple es k pos) (dgTup n gs) := by
  obtain ⟨t0, p0, s0⟩ := h.ex
  refine ⟨_, pg_tup hc p0 hn hst, fun F H θ O σ δ v w S j s r q Q k => ?_⟩
  obtain ⟨ws, rfl, hl, q⟩ := q
  obtain ⟨a, vs, rfl, hq, rr⟩ := r.tup_inv
  exact ⟨a, vs, rfl, sqT_sub j hq, by rw [rr.length]; exact hl, s0 F H θ O σ δ _ _ _ j s rr q _ k⟩
end
abbrev Blk (X : Cx) (scope : Scope) := fun (s : Shared) (H : Hp) (C : Addr) (cl : List (Str × Addr)) (fp : List Addr) => X.blk s H scope (compEnvC scope cl C X.env) fp
theorem uni_e {X : Cx} {scope : Scope} {e : Expr} {we : DE} (h : ∀ s H C cl fp, ED (Blk X scope s H C cl fp) e we) : ∃ te, (∀ s H C cl fp, PE (Blk X scope s H C cl fp) e te) ∧ SE X.K te we :=
  ⟨fun σ H Q => ∀ s H0 C cl fp, Classical.choose (h s H0 C cl fp).ex σ H Q, fun s H0 C cl fp => ⟨fun pins s' σ H Q I hw => (Classical.choose_spec (h s H0 C cl fp).ex).1.run pins s' σ H Q I (hw s H0 C cl fp)⟩,
    fun F H θ O σ δ S j r q Q k s H0 C cl fp => (Classical.choose_spec (h s H0 C cl fp).ex).2 F H θ O σ δ S j r q Q k⟩
theorem uni_t {X : Cx} {scope : Scope} {e : List Expr} {wt : DT} (h : ∀ s H C cl fp, EDTs (Blk X scope s H C cl fp) e wt) : ∃ te, (∀ s H C cl fp, PTs (Blk X scope s H C cl fp) e te) ∧ STt X.K te wt :=
  ⟨fun σ H Q => ∀ s H0 C cl fp, Classical.choose (h s H0 C cl fp).ex σ H Q, fun s H0 C cl fp => ⟨fun pins s' σ H Q I hw => (Classical.choose_spec (h s H0 C cl fp).ex).1.run pins s' σ H Q I (hw s H0 C cl fp)⟩,
    fun F H θ O σ δ S j r q Q k s H0 C cl fp => (Classical.choose_spec (h s H0 C cl fp).ex).2 F H θ O σ δ S j r q Q k⟩
theorem uni_g {X : Cx} {scope : Scope} {e : Expr} {gd : DG} {vs : List Nat} (h : ∀ s H C cl fp, EDGc (Blk X scope s H C cl fp) vs e gd) : ∃ te, (∀ s H C cl fp, PG (Blk X scope s H C cl fp) e te) ∧ SGc X.K te gd vs :=
  ⟨fun v σ H Q => ∀ s H0 C cl fp, Classical.choose (h s H0 C cl fp).ex v σ H Q, fun s H0 C cl fp => ⟨fun pins s' σ H v u Q I r hw => (Classical.choose_spec (h s H0 C cl fp).ex).1.run pins s' σ H v u Q I r (hw s H0 C cl fp)⟩,
    fun F H θ O σ δ v w S j r rw' q Q k s H0 C cl fp => (Classical.choose_spec (h s H0 C cl fp).ex).2 F H θ O σ δ v w S j r rw' q Q k⟩
/-- [elt for tg in iter if ..]: the new list is a cell from the start; an invariant over the turn and the store -/
def dLc (di : DS → Sto → (Wk → Sto → Prop) → Prop) (g : DG) (wt : DT) (we : DE) (vs : List Nat) : DE := fun δ O S => di δ O fun w O1 => ∃ (n : Nat) (Pv : Nat → Sto → Prop), Pv 0 (O1 ++ [.lst []]) ∧
  ∀ i O, Pv i O → i ≤ n ∧ w.ok O ∧ (match w.at_ i O with
    | none => S (.cell O1.length) O
    | some z => i < n ∧ g z (wipeD δ vs) O fun δ2 O2 => wt δ2 O2 fun b O3 => if b = true then we δ2 O3 fun y O4 => ∃ acc, O4[O1.length]? = some (.lst acc) ∧ acc.length < sizeLine ∧ Pv (i + 1) (O4.set O1.length (.lst (acc ++ [y]))) else Pv (i + 1) O3)
theorem lc_sound {K : PySem.W.Frag} {wi : TI} {di : DS → Sto → (Wk → Sto → Prop) → Prop} {g : TG} {gd : DG} {tt : TT} {wt : DT} {te : TE} {we : DE} {vs : List Nat} (s0 : SI K wi di) (s1 : SGc K g gd vs) (s2 : STt K tt wt) (s3 : SE K te we) : SE K (tLc wi g tt te vs) (dLc di gd wt we vs) := by
  intro F H θ O σ δ S j s q Q k
  refine s0 F H θ O σ δ _ j s q _ fun J w F1 H1 θ1 O1 g1 j1 q1 turn D hD => ?_
  obtain ⟨n, Pv, h0, hq⟩ := q1
  have gp : Gr F1 θ1 F1 (θ1 ++ [D]) := Gr.push
  have hk0 : (θ1 ++ [D])[O1.length]? = some D := by
    rw [← j1.len]
    simp
  refine ⟨fun i m H' => m = n - i ∧ ∃ F' θ' O', Gr F1 (θ1 ++ [D]) F' θ' ∧ Jn K F' H' θ' O' ∧ Pv i O', ⟨n, by omega, F1, _, _, Gr.refl, j1.newL hD .nil, h0⟩, ?_⟩
  rintro i m H2 ⟨rfl, F2, θ2, O2, g2, j2, pv⟩
  obtain ⟨hin, hok, hm⟩ := hq i O2 pv
  have gA : Gr F1 θ1 F2 θ2 := gp.trans g2
  rcases turn i F2 H2 θ2 O2 gA j2 hok with ⟨e, st⟩ | ⟨z, e, go, yl⟩
  · rw [e] at hm
    exact .inl ⟨st, k (.ref D) _ F2 H2 θ2 O2 (g1.trans gA) j2 (.cell (g2.at hk0)) hm⟩
  · rw [e] at hm
    obtain ⟨hlt, hm⟩ := hm
    refine .inr ⟨go, fun H' => ∃ F' θ' O', Gr F1 (θ1 ++ [D]) F' θ' ∧ Jn K F' H' θ' O' ∧ Pv (i + 1) O', fun H' h => ⟨n - (i + 1), by omega, rfl, h⟩, fun x H3 hy => ?_⟩
    obtain ⟨F3, θ3, g3, j3, r3⟩ := yl x H3 hy
    have s3' := ((s.mono (g1.trans (gA.trans g3))).wipe vs)
    refine s1 F3 H3 θ3 O2 _ _ x z _ j3 s3' r3 hm _ fun F4 H4 θ4 O4 σ4 δ4 g4 j4 s4 e4 q4 => ⟨e4.trans (wipe_wipe σ vs), ?_⟩
    refine s2 F4 H4 θ4 O4 σ4 δ4 _ j4 s4 q4 _ fun b F5 H5 θ5 O5 g5 j5 q5 => ?_
    have g25 : Gr F1 (θ1 ++ [D]) F5 θ5 := ((g2.trans g3).trans g4).trans g5
    cases b with
    | false => exact ⟨F5, θ5, O5, g25, j5, q5⟩
    | true =>
      refine s3 F5 H5 θ5 O5 σ4 δ4 _ j5 (s4.mono g5) q5 _ fun y wy F6 H6 θ6 O6 g6 j6 r6 q6 => ?_
      obtain ⟨acc, ha, hz, pv6⟩ := q6
      have hD6 : θ6[O1.length]? = some D := (g25.trans g6).at hk0
      obtain ⟨f6, us, hu, ru⟩ := j6.lst hD6 ha
      exact ⟨us, hu, by rw [ru.length]; exact hz, F6, θ6, _, g25.trans g6, j6.putL hD6 f6 (ru.append (.cons r6 .nil)), pv6⟩
section
variable {X : Cx} {elt tg iter : Expr} {ifs : List Expr} {scope : Scope} {own : List (Str × Nat)} {pos : Pos} {di : DS → Sto → (Wk → Sto → Prop) → Prop} {gd : DG} {wt : DT} {we : DE}
theorem ed_lc (hc : X.calm = true) (hN : X.N.Nodup) (hi : EDI X tg iter di) (ok : BlkOk X.N X.env.scope scope own) (hg : ∀ s H C cl fp, EDGc (Blk X scope s H C cl fp) (own.map (·.2)) tg gd) (ht : ∀ s H C cl fp, EDTs (Blk X scope s H C cl fp) ifs wt)
    (he : ∀ s H C cl fp, ED (Blk X scope s H C cl fp) elt we) (hs : ∀ x, foldedSetIterable iter X.env x = pure x := by intro _; rfl) : ED X (.ListComp elt [⟨tg, iter, ifs, 0⟩] scope pos) (dLc di gd wt we (own.map (·.2))) := by
  obtain ⟨t0, p0, s0⟩ := hi.ex
  obtain ⟨t1, p1, s1⟩ := uni_g hg
  obtain ⟨t2, p2, s2⟩ := uni_t ht
  obtain ⟨t3, p3, s3⟩ := uni_e he
  exact ⟨_, pe_lc hc hN p0 ok p1 p2 p3 hs, lc_sound s0 s1 s2 s3⟩
theorem es_setLc {i : Nat} {y : Str} {py spos : Pos} (hc : X.calm = true) (hN : X.N.Nodup) (hy : X.N[i]? = some y) (hyl : X.env.scope.names.lookup y = some .local) (hsw : swapsWith (.ListComp elt [⟨tg, iter, ifs, 0⟩] scope pos) (some (.Name y py)) spos.line X.env = pure true)
    (hi : EDI X tg iter di) (ok : BlkOk X.N X.env.scope scope own) (hg : ∀ s H C cl fp, EDGc (Blk X scope s H C cl fp) (own.map (·.2)) tg gd) (ht : ∀ s H C cl fp, EDTs (Blk X scope s H C cl fp) ifs wt)
    (he : ∀ s H C cl fp, ED (Blk X scope s H C cl fp) elt we) (hs : ∀ x, foldedSetIterable iter X.env x = pure x := by intro _; rfl) : EDS X (.Assign [.Name y py] (.ListComp elt [⟨tg, iter, ifs, 0⟩] scope pos) spos) (dSet i (dLc di gd wt we (own.map (·.2)))) := by
  obtain ⟨t0, p0, s0⟩ := hi.ex
  obtain ⟨t1, p1, s1⟩ := uni_g hg
  obtain ⟨t2, p2, s2⟩ := uni_t ht
  obtain ⟨t3, p3, s3⟩ := uni_e he
  refine ⟨_, ps_setLc hc hN hy hyl hsw p0 ok p1 p2 p3 hs, fun F H θ O σ δ D D' j s q l => ?_⟩
  exact lc_sound s0 s1 s2 s3 F H θ O σ δ _ j s q _ fun v w F1 H1 θ1 O1 g1 j1 r1 q1 => l.nx F1 H1 θ1 O1 _ _ g1 j1 ((s.mono g1).set i r1) q1
end
end Dm

set_option Elab.async false
set_option linter.all false
set_option maxRecDepth 100000
set_option maxHeartbeats 4000000
/-! The data machine: what a def promises over the data, its body, its calls, the law's own call. -/
namespace Dm
open PySem PySem.Spec PyProof.Rows L2

/-- a promise over the data: the arguments, the store, what is wanted of the answer and the store behind -/
abbrev SpD := List W → Sto → WK → Prop
/-- the same over the heap -/
def lift (K : PySem.W.Frag) (sp : SpD) (vs : List V) (H : Hp) (Q : VK) : Prop :=
  ∃ F θ O ws S, Jn K F H θ O ∧ RWs K F θ vs ws ∧ sp ws O S ∧ ∀ v w F' H' θ' O', Gr F θ F' θ' → Jn K F' H' θ' O' → RW K F' θ' v w → S w O' → Q v H'
/-- what is around a call: room, no guards -/
structure RoomG (k : Nat) (A : Around) : Prop where
  r : Room k A
  g : A.guards = some []
theorem RoomG.mono {j k : Nat} {A : Around} (h : RoomG k A) (l : j ≤ k) : RoomG j A := ⟨h.r.mono l, h.g⟩
theorem RoomG.deeper {k : Nat} {A : Around} (h : RoomG (k + 1) A) (env : Env) : RoomG k (A.deeper env) := ⟨h.r.deeper env, h.g⟩
structure FnG (P : Program) (w : World) (K : PySem.W.Frag) (mg : Str → Option Value) (base : Heap) (k : Nat) (f : Addr) (fd : FuncData) (ps : List Str) (sp : SpD) : Prop where
  len : ∀ ws O S, sp ws O S → ws.length = ps.length
  run : ∀ (A : Around) (outer : List Env) (s : Shared) (H : Hp) (args : Args) (us : List Value) (vs : List V) (Q : VK), RoomG k A → Env0 P w K mg base A outer s H → BindsTo s fd args (ps.zip us) → Vals vs us → lift K sp vs H Q →
    codeAny (model P w) A (.call (.ref f) args) (CR CX0 outer P w H s Q E0) s
theorem FnG.mono {P : Program} {w : World} {K : PySem.W.Frag} {mg : Str → Option Value} {base : Heap} {j k : Nat} {f : Addr} {fd : FuncData} {ps : List Str} {sp : SpD} (F : FnG P w K mg base j f fd ps sp) (h : j ≤ k) : FnG P w K mg base k f fd ps sp :=
  ⟨F.len, fun A outer s H args us vs Q hr => F.run A outer s H args us vs Q (hr.mono h)⟩
theorem FnG.imp {P : Program} {w : World} {K : PySem.W.Frag} {mg : Str → Option Value} {base : Heap} {k : Nat} {f : Addr} {fd : FuncData} {ps : List Str} {sp sp' : SpD} (F : FnG P w K mg base k f fd ps sp) (h : ∀ ws O S, sp' ws O S → sp ws O S) : FnG P w K mg base k f fd ps sp' :=
  ⟨fun ws O S q => F.len ws O S (h _ _ _ q), fun A outer s H args us vs Q hr he hb hv ⟨F0, θ, O, ws, S, j, r, q, k⟩ => F.run A outer s H args us vs Q hr he hb hv ⟨F0, θ, O, ws, S, j, r, h _ _ _ q, k⟩⟩
/-- the slots at the entry -/
def startD (N : List Str) (ws : List W) : DS := ws.map some ++ List.replicate (N.length - ws.length) none
theorem rs_start {K : PySem.W.Frag} {F : Hp} {θ : List Addr} {N : List Str} {vs : List V} {ws : List W} (r : RWs K F θ vs ws) : RS K F θ (L2.start N vs) (startD N ws) := by
  unfold L2.start startD
  refine ⟨by simp [r.length], fun i w e => ?_⟩
  by_cases h : i < ws.length
  · rw [List.getElem?_append_left (by simpa using h), List.getElem?_map] at e
    cases q : ws[i]? with
    | none => rw [q] at e; cases e
    | some z =>
      rw [q] at e
      cases e
      obtain ⟨v, hv, rv⟩ := r.get q
      exact ⟨v, by rw [List.getElem?_append_left (by rw [List.length_map, r.length]; exact h), List.getElem?_map, hv]; rfl, rv⟩
  · rw [List.getElem?_append_right (by simpa using h), List.getElem?_replicate] at e
    split at e <;> cases e
section
variable {P : Program} {w : World} {K : PySem.W.Frag} {mg : Str → Option Value} {base : Heap}
/-- the context of a def's body where nothing may be raised -/
abbrev cxD (P : Program) (w : World) (K : PySem.W.Frag) (mg : Str → Option Value) (base : Heap) (N : List Str) (qual : Str) (scope : Scope) (f : Addr) (cd : Value) (A : Around) (outer : List Env) (s : Shared) (H : Hp) : Cx :=
  (cxOf CX0 P w K mg base N qual scope f cd A outer s H E0).nox
/-- THE RULE: a def by its body -/
theorem FunG {x qual : Str} {params : Arguments} {body : List Stmt} {scope : Scope} {dvs : List V} {kws : List (Str × V)} {f : Addr} {fd : FuncData} {N ps : List Str} {k : Nat} {sp : SpD} (F : FunD K x qual params body scope dvs kws f fd) (S : FnScope N ps scope)
    (len : ∀ ws O S, sp ws O S → ws.length = ps.length)
    (hbody : ∀ (cdv : Value) (A : Around) (outer : List Env) (s : Shared) (H : Hp), RoomG k (A.deeper (envOfC qual scope s.heap.objs.size f cdv)) →
      ∃ wb, EDB (cxD P w K mg base N qual scope f cdv A outer s H) body wb ∧ ∀ ws O S, sp ws O S → wb { nx := fun _ O' => S .non O', rt := S } (startD N ws) O) : FnG P w K mg base (k + 1) f fd ps sp := by
  obtain ⟨oc, od, dV, kV, doc, pm, an, cdv, ct, osl, rfl, lk, hcd, _, _⟩ := F.ex
  refine ⟨len, fun A outer s H args us vs Q hr e0 hb r hsp => ?_⟩
  obtain ⟨F0, θ, O, ws, S', jn, rr, q, fin⟩ := hsp
  have hl : vs.length = ps.length := rr.length.trans (len _ _ _ q)
  have KX : K.In s.heap := e0.mod.kin.keeps fun b o e => (e0.bs b o e).1
  have lim : s.heap.NoLimit := e0.mod.nolimit.keeps fun b o e => (e0.bs b o e).1
  have hkind : ∀ y ∈ ps.zip us, scope.names.lookup y.1 = some .local ∨ (scope.names.lookup y.1 = some .cell ∧ ((cellsFrom (s.heap.objs.size + 1) scope.names []).lookup y.1).isSome = true) := by
    rintro ⟨n, v⟩ hy
    rcases S.par n (List.of_mem_zip hy).1 with q | q
    · exact .inl q
    · exact .inr ⟨q, PySem.W.cellsFrom_some _ _ _ (.inl q)⟩
  refine codeAny_call_function hr.r.depth (KX _ _ lk) rfl S.co S.gen rfl (PySem.W.codeRec_of KX hcd) (hb _ _ _ _ ?_)
  refine wpAny_newFunctionEnv_cells S.kind hkind fun env he s1 x => ?_
  subst he
  refine ⟨lim.keeps x.toInCall.keep, codeAny_func ?_⟩
  obtain ⟨wb, hB, hW⟩ := hbody cdv A outer s H (hr.deeper _)
  obtain ⟨t, ht, hs⟩ := hB.ex
  have I := (inv_start (CX := CX0) (E := E0) S hr.r.hd e0 hl r x).wish fun _ _ => False
  have hq : t { nx := fun _ H' => Q .non H', rt := Q } (L2.start N vs) H := hs F0 H θ O _ _ _ _ jn (rs_start rr) (hW ws O S' q)
    ⟨fun F' H' θ' O' σ δ g j' s' q' => fin _ _ F' H' θ' O' g j' .non q', fun F' H' θ' O' v w' g j' r' q' => fin v w' F' H' θ' O' g j' r' q', fun _ _ _ _ _ _ _ _ _ z => z, fun _ _ _ _ _ _ _ _ _ z => z⟩
  refine wpAny_mono (ht.run [] s1 (L2.start N vs) H _ I hq) (fun fl s' hs' => ?_) fun e s' z => False.elim z
  cases fl with
  | ret u =>
    obtain ⟨v, σ', H', J, rv, q⟩ := hs'
    exact ⟨v, H', J.os, J.bare, J.base, J.hok, rv, q⟩
  | next =>
    obtain ⟨σ', H', J, q⟩ := hs'
    exact ⟨V.non, H', J.os, J.bare, J.base, J.hok, rfl, q⟩
  | brk =>
    obtain ⟨_, _, _, q⟩ := hs'
    exact q.elim
  | cont =>
    obtain ⟨_, _, _, q⟩ := hs'
    exact q.elim
end
/-! ### calls -/
def dCall (sp : SpD) (wa : DA) : DE := fun δ O S => wa δ O fun ws O1 => sp ws O1 S
def dCallK (sp : SpD) (g : List W → List W → List W) (wa wk : DA) : DE := fun δ O S => wa δ O fun ws O1 => wk δ O1 fun zs O2 => sp (g ws zs) O2 S
structure EDK (X : Cx) (kws : List Keyword) (wa : DA) : Prop where
  ex : ∃ ta, PK X kws ta ∧ SA X.K ta wa
section
variable {X : Cx} {k : Nat} {f : Addr} {fd : FuncData} {ps ks : List Str} {sp : SpD} {x : Str} {p pos kpos : Pos} {e : Expr} {es : List Expr} {kws : List Keyword} {wa wk : DA} {we : DE} {nm : Option Str}
/-- a call's reading over the heap -/
def tCallG (K : PySem.W.Frag) (sp : SpD) (t : TA) : TE := fun σ H Q => t σ H fun vs H1 => lift K sp vs H1 Q
def tCallKG (K : PySem.W.Frag) (sp : SpD) (gV : List V → List V → List V) (t tk : TA) : TE := fun σ H Q => t σ H fun vs H1 => tk σ H1 fun zs H2 => lift K sp (gV vs zs) H2 Q
theorem runG {pins : List (Addr × Obj)} {σ : L2.St} {H : Hp} {s : Shared} {Q : VK} {us bs : List Value} {kw : List (Str × Value)} {vs : List V} (F : FnG X.prog X.w X.K X.mg X.base k f fd ps sp) (hr : RoomG k X.A) (hb : BindsTo s fd ⟨us, kw⟩ (ps.zip bs))
    (I : Inv X pins σ H s) (r : Vals vs bs) (h : lift X.K sp vs H Q) : wpAny (model X.prog X.w) X.A (call (.ref f) us kw) (EP X pins σ Q) X.xe s := by
  refine wpAny_call (codeAny_mono (F.run X.A X.stack s H ⟨us, kw⟩ bs vs Q hr I.env0 hb r h) fun r s' hq => ?_)
  cases r with
  | error e => exact (show False from hq).elim
  | ok fl =>
    cases fl with
    | ret u => exact I.after hq
    | next => exact False.elim hq
    | brk => exact False.elim hq
    | cont => exact False.elim hq
theorem lift_len {K : PySem.W.Frag} {vs : List V} {H : Hp} {Q : VK} {P : Program} {w : World} {mg : Str → Option Value} {base : Heap} (F : FnG P w K mg base k f fd ps sp) (h : lift K sp vs H Q) : vs.length = ps.length := by
  obtain ⟨F0, θ, O, ws, S, j, r, q, _⟩ := h
  exact r.length.trans (F.len _ _ _ q)
theorem pe_callG (F : FnG X.prog X.w X.K X.mg X.base k f fd ps sp) (hr : RoomG k X.A) (hg : Gl X x) (hm : X.mg x = some (.ref f)) (hk : PySem.W.keepIn X.K (.ref f) = true) (hb : Binds X.K fd ps []) {t : TA} (ha : PA X (e :: es) t)
    (hdb : (x == ("__debug__" : Str)) = false := by decide) (he : starEach (e :: es) X.env = (false, eval e X.env) :: starEach es X.env := by rfl) (hpl : (backTo pos (starEach es X.env)).any (·.1) = false := by rfl) :
    PE X (.Call (.Name x p) (e :: es) [] pos) (tCallG X.K sp t) := by
  refine ⟨fun pins s σ H Q I h => ?_⟩
  refine wpAny_Call_Name_kw (ld_glob I hg hm ?_ hdb)
  refine PySem.W.callWith_K (h₀ := X.base) I.ok.mod.kin hk (thn (ha.run pos pins s σ H _ I h) fun us s1 ⟨vs, H1, I1, r, q⟩ => ⟨I1.kIn, ?_⟩) he hpl
  have hl := hb s1 us I1.kIn (by rw [List.append_nil, ← r.length]; exact lift_len F q)
  rw [List.append_nil] at hl
  exact runG F hr hl I1 r q
theorem ed_call (F : FnG X.prog X.w X.K X.mg X.base k f fd ps sp) (hr : RoomG k X.A) (hg : Gl X x) (hm : X.mg x = some (.ref f)) (hk : PySem.W.keepIn X.K (.ref f) = true) (hb : Binds X.K fd ps []) (ha : EDA X (e :: es) wa)
    (hdb : (x == ("__debug__" : Str)) = false := by decide) (he : starEach (e :: es) X.env = (false, eval e X.env) :: starEach es X.env := by rfl) (hpl : (backTo pos (starEach es X.env)).any (·.1) = false := by rfl) :
    ED X (.Call (.Name x p) (e :: es) [] pos) (dCall sp wa) := by
  obtain ⟨t0, p0, s0⟩ := ha.ex
  refine ⟨_, pe_callG F hr hg hm hk hb p0 hdb he hpl, fun F0 H θ O σ δ S j s q Q kk => ?_⟩
  exact s0 F0 H θ O σ δ _ j s q _ fun vs ws F1 H1 θ1 O1 g1 j1 r1 q1 => ⟨F1, θ1, O1, ws, S, j1, r1, q1, fun v w F2 H2 θ2 O2 g2 j2 r2 q2 => kk v w F2 H2 θ2 O2 (g1.trans g2) j2 r2 q2⟩
theorem ek_nil : EDK X [] dNil := ⟨_, pk_nil, fun F H θ O σ δ S j s q Q k => k [] [] F H θ O Gr.refl j .nil q⟩
theorem ek_cons (h : ED X e we) (hr : EDK X kws wk) : EDK X (⟨nm, e, kpos⟩ :: kws) (dCons we wk) := by
  obtain ⟨t, p, s⟩ := h.ex
  obtain ⟨t2, p2, s2⟩ := hr.ex
  refine ⟨_, pk_cons p p2, fun F H θ O σ δ S j r q Q k => ?_⟩
  refine s F H θ O σ δ _ j r q _ fun v w F1 H1 θ1 O1 g1 j1 r1 q1 => ?_
  exact s2 F1 H1 θ1 O1 σ δ _ j1 (r.mono g1) q1 _ fun vs ws F2 H2 θ2 O2 g2 j2 r2 q2 => k _ _ F2 H2 θ2 O2 (g1.trans g2) j2 (.cons (r1.mono g2) r2) q2
end
end Dm

set_option Elab.async false
set_option linter.all false
set_option maxRecDepth 100000
set_option maxHeartbeats 4000000
/-! The data machine: operators, subscripts, methods, built-ins. -/
namespace Dm
open PySem PySem.Spec PyProof.Rows L2

/-! ### operators on ints -/
def rdI (C : Int → Int → Prop) (g : Int → Int → W) : R2D := fun x y O S => ∃ i j, x = .int i ∧ y = .int j ∧ C i j ∧ S (g i j) O
def rdI0 (g : Int → Int → W) : R2D := fun x y O S => ∃ i j, x = .int i ∧ y = .int j ∧ S (g i j) O
theorem sr_I {K : PySem.W.Frag} {C : Int → Int → Prop} {g : Int → Int → V} {gd : Int → Int → W} (h : ∀ F θ i j, RW K F θ (g i j) (gd i j)) : SR2 K (rI C g) (rdI C gd) := by
  intro F H θ O x y v u S j rx ry q Q k
  obtain ⟨i, l, rfl, rfl, hc, q⟩ := q
  exact ⟨i, l, rx.int_inv, ry.int_inv, hc, k _ _ F H θ O Gr.refl j (h F θ i l) q⟩
theorem sr_I0 {K : PySem.W.Frag} {g : Int → Int → V} {gd : Int → Int → W} (h : ∀ F θ i j, RW K F θ (g i j) (gd i j)) : SR2 K (rI0 g) (rdI0 gd) := by
  intro F H θ O x y v u S j rx ry q Q k
  obtain ⟨i, l, rfl, rfl, q⟩ := q
  exact ⟨i, l, rx.int_inv, ry.int_inv, k _ _ F H θ O Gr.refl j (h F θ i l) q⟩
/-- products below a hundred million bits -/
def CMulB (i j : Int) : Prop := i.natAbs.log2 + j.natAbs.log2 < 100000000
theorem CMulB.ok {i j : Int} (h : CMulB i j) : IntMulOk i j := by
  have b : ∀ x : Int, Builtin.Int.intBits x ≤ x.natAbs.log2 + 1 := fun x => by
    unfold Builtin.Int.intBits
    split <;> omega
  have h1 := b i
  have h2 := b j
  have h3 : i.natAbs.log2 + j.natAbs.log2 < 100000000 := h
  have e : bitsLine = 134217728 := by decide
  intro z
  rw [Bool.and_eq_true] at z
  have z2 := of_decide_eq_true (show decide (_ > _) = true from z.2)
  rw [e] at z2
  omega
section
variable {X : Cx} {a b c e : Expr} {es : List Expr} {wa wb we : DE} {wr : DA} {pos : Pos}
theorem op_mulB : OpR X (binaryOp .Mult) (rI CMulB fun i j => .int (i * j)) := opI fun _ _ _ _ _ _ _ hc q => mul_int q hc.ok
abbrev dAdd := dOp (rdI0 fun i j => .int (i + j))
abbrev dSub := dOp (rdI0 fun i j => .int (i - j))
abbrev dMul := dOp (rdI CMulB fun i j => .int (i * j))
abbrev dDiv := dOp (rdI CDivW fun i j => .int (i / j))
abbrev dMod := dOp (rdI (fun _ j => 0 < j) fun i j => .int (i % j))
abbrev dPow := dOp (rdI CPow fun i j => .int (i ^ j.toNat))
theorem ed_add (ha : ED X a wa) (hb : ED X b wb) : ED X (.BinOp a .Add b pos) (dAdd wa wb) := ed_op op_add (sr_I0 fun _ _ _ _ => .int _) ha hb
theorem ed_sub (ha : ED X a wa) (hb : ED X b wb) : ED X (.BinOp a .Sub b pos) (dSub wa wb) := ed_op op_sub (sr_I0 fun _ _ _ _ => .int _) ha hb
theorem ed_mul (ha : ED X a wa) (hb : ED X b wb) : ED X (.BinOp a .Mult b pos) (dMul wa wb) := ed_op op_mulB (sr_I fun _ _ _ _ => .int _) ha hb
theorem ed_div (ha : ED X a wa) (hb : ED X b wb) : ED X (.BinOp a .FloorDiv b pos) (dDiv wa wb) := ed_op op_fdivW (sr_I fun _ _ _ _ => .int _) ha hb
theorem ed_mod (ha : ED X a wa) (hb : ED X b wb) : ED X (.BinOp a .Mod b pos) (dMod wa wb) := ed_op op_mod (sr_I fun _ _ _ _ => .int _) ha hb
theorem ed_pow (ha : ED X a wa) (hb : ED X b wb) : ED X (.BinOp a .Pow b pos) (dPow wa wb) := ed_op op_pow (sr_I fun _ _ _ _ => .int _) ha hb
abbrev dLt := dOp (rdI0 fun i j => .bl (decide (i < j)))
abbrev dLe := dOp (rdI0 fun i j => .bl (decide (i ≤ j)))
abbrev dGt := dOp (rdI0 fun i j => .bl (decide (j < i)))
abbrev dGe := dOp (rdI0 fun i j => .bl (decide (j ≤ i)))
theorem et_lt (ha : ED X a wa) (hb : ED X b wb) : EDT X (.Compare a [.Lt] [b] pos) (dTest (dLt wa wb)) := et_cmp op_lt (sr_I0 fun _ _ _ _ => .bl _) ha hb (nomark _)
theorem et_le (ha : ED X a wa) (hb : ED X b wb) : EDT X (.Compare a [.LtE] [b] pos) (dTest (dLe wa wb)) := et_cmp op_le (sr_I0 fun _ _ _ _ => .bl _) ha hb (nomark _)
theorem et_gt (ha : ED X a wa) (hb : ED X b wb) : EDT X (.Compare a [.Gt] [b] pos) (dTest (dGt wa wb)) := et_cmp op_gt (sr_I0 fun _ _ _ _ => .bl _) ha hb (nomark _)
theorem et_ge (ha : ED X a wa) (hb : ED X b wb) : EDT X (.Compare a [.GtE] [b] pos) (dTest (dGe wa wb)) := et_cmp op_ge (sr_I0 fun _ _ _ _ => .bl _) ha hb (nomark _)
theorem ed_lt (ha : ED X a wa) (hb : ED X b wb) : ED X (.Compare a [.Lt] [b] pos) (dLt wa wb) := ed_cmp op_lt (sr_I0 fun _ _ _ _ => .bl _) ha hb (nomark _)
theorem ed_gt (ha : ED X a wa) (hb : ED X b wb) : ED X (.Compare a [.Gt] [b] pos) (dGt wa wb) := ed_cmp op_gt (sr_I0 fun _ _ _ _ => .bl _) ha hb (nomark _)
theorem ed_le (ha : ED X a wa) (hb : ED X b wb) : ED X (.Compare a [.LtE] [b] pos) (dLe wa wb) := ed_cmp op_le (sr_I0 fun _ _ _ _ => .bl _) ha hb (nomark _)
theorem ed_ge (ha : ED X a wa) (hb : ED X b wb) : ED X (.Compare a [.GtE] [b] pos) (dGe wa wb) := ed_cmp op_ge (sr_I0 fun _ _ _ _ => .bl _) ha hb (nomark _)

/-! ### == of scalars -/
def eqS : W → W → Option Bool
  | .int i, .int j => some (decide (i = j))
  | .str x, .str y => some (decide (x = y))
  | .bl x, .bl y => some (decide (x = y))
  | .non, .non => some true
  | .non, .int _ => some false | .int _, .non => some false | .non, .str _ => some false | .str _, .non => some false | .non, .bl _ => some false | .bl _, .non => some false
  | .int _, .str _ => some false | .str _, .int _ => some false | .bl _, .str _ => some false | .str _, .bl _ => some false
  | _, _ => none
def rdEq : R2D := fun x y O S => ∃ b, eqS x y = some b ∧ S (.bl b) O
def rdNe : R2D := fun x y O S => ∃ b, eqS x y = some b ∧ S (.bl (!b)) O
theorem eqS_ok {K : PySem.W.Frag} {F : Hp} {θ : List Addr} {x y : W} {v u : V} {b : Bool} (rx : RW K F θ v x) (ry : RW K F θ u y) (h : eqS x y = some b) : scal v u = true ∧ decide (v = u) = b := by
  cases x <;> cases y <;> (try (exfalso; revert h; simp only [eqS]; intro h; cases h; done)) <;> (cases rx; cases ry; have h2 := Option.some.inj h; subst h2; refine ⟨rfl, ?_⟩; simp)
theorem sr_eq {K : PySem.W.Frag} : SR2 K rEq rdEq := by
  intro F H θ O x y v u S j rx ry q Q k
  obtain ⟨b, e, q⟩ := q
  obtain ⟨h1, h2⟩ := eqS_ok rx ry e
  exact ⟨h1, by rw [h2]; exact k _ _ F H θ O Gr.refl j (.bl b) q⟩
theorem sr_ne {K : PySem.W.Frag} : SR2 K rNe rdNe := by
  intro F H θ O x y v u S j rx ry q Q k
  obtain ⟨b, e, q⟩ := q
  obtain ⟨h1, h2⟩ := eqS_ok rx ry e
  exact ⟨h1, by rw [h2]; exact k _ _ F H θ O Gr.refl j (.bl (!b)) q⟩
theorem et_eq (ha : ED X a wa) (hb : ED X b wb) : EDT X (.Compare a [.Eq] [b] pos) (dTest (dOp rdEq wa wb)) := et_cmp op_eq sr_eq ha hb (nomark _)
theorem et_ne (ha : ED X a wa) (hb : ED X b wb) : EDT X (.Compare a [.NotEq] [b] pos) (dTest (dOp rdNe wa wb)) := et_cmp op_ne sr_ne ha hb (nomark _)
theorem ed_eq (ha : ED X a wa) (hb : ED X b wb) : ED X (.Compare a [.Eq] [b] pos) (dOp rdEq wa wb) := ed_cmp op_eq sr_eq ha hb (nomark _)
theorem ed_ne (ha : ED X a wa) (hb : ED X b wb) : ED X (.Compare a [.NotEq] [b] pos) (dOp rdNe wa wb) := ed_cmp op_ne sr_ne ha hb (nomark _)

/-! ### subscripts -/
def rdIxT : R2D := fun x y O S => ∃ ws i w, x = .tup ws ∧ y = .int i ∧ atI ws i = some w ∧ S w O
def rdIxL : R2D := fun x y O S => ∃ k ws i w, x = .cell k ∧ y = .int i ∧ LstC O k ws ∧ atI ws i = some w ∧ S w O
def rdIxS : R2D := fun x y O S => ∃ z i c, x = .str z ∧ y = .int i ∧ z.length ≤ sizeLine ∧ atI z.cps.toList i = some c ∧ S (.str ⟨#[c]⟩) O
theorem atI_rel {K : PySem.W.Frag} {F : Hp} {θ : List Addr} {vs : List V} {ws : List W} {i : Int} {w : W} (r : RWs K F θ vs ws) (h : atI ws i = some w) : ∃ v, atI vs i = some v ∧ RW K F θ v w := by
  unfold atI at h ⊢
  rw [r.length]
  cases q : ixN ws.length i with
  | none => rw [q] at h; cases h
  | some j =>
    rw [q] at h
    exact r.get (show ws[j]? = some w from h)
theorem sr_ixT {K : PySem.W.Frag} : SR2 K (rIxT K) rdIxT := by
  intro F H θ O x y v u S j rx ry q Q k
  obtain ⟨ws, i, w, rfl, rfl, h, q⟩ := q
  obtain ⟨a, vs, rfl, hq, rr⟩ := rx.tup_inv
  obtain ⟨z, hz, rz⟩ := atI_rel rr h
  exact ⟨a, vs, i, z, rfl, ry.int_inv, sqT_sub j hq, hz, k _ _ F H θ O Gr.refl j rz q⟩
theorem sr_ixL {K : PySem.W.Frag} : SR2 K (rIxL K) rdIxL := by
  intro F H θ O x y v u S j rx ry q Q k
  obtain ⟨c, ws, i, w, rfl, rfl, hc, h, q⟩ := q
  obtain ⟨a, rfl, ha⟩ := rx.cell_inv
  obtain ⟨vs, hl, rr⟩ := j.lstC ha hc
  obtain ⟨z, hz, rz⟩ := atI_rel rr h
  exact ⟨a, vs, i, z, rfl, ry.int_inv, hl, hz, k _ _ F H θ O Gr.refl j rz q⟩
theorem sr_ixS {K : PySem.W.Frag} : SR2 K rIxS rdIxS := by
  intro F H θ O x y v u S j rx ry q Q k
  obtain ⟨z, i, c, rfl, rfl, hz, h, q⟩ := q
  exact ⟨z, i, c, rx.str_inv, ry.int_inv, hz, h, k _ _ F H θ O Gr.refl j (.str _) q⟩
theorem ed_ix {r : R2} {rd : R2D} (hr : IxR X r) (h : SR2 X.K r rd) (ha : ED X a wa) (hb : ED X b wb) (hs : PlainIx b := by exact fun _ _ => rfl) : ED X (.Subscript a b pos) (dOp rd wa wb) := by
  obtain ⟨ta, pa, sa⟩ := ha.ex
  obtain ⟨tb, pb, sb⟩ := hb.ex
  exact ⟨_, pe_ix hr pa pb hs, .op h sa sb⟩
theorem ed_ixT (ha : ED X a wa) (hb : ED X b wb) (hs : PlainIx b := by exact fun _ _ => rfl) : ED X (.Subscript a b pos) (dOp rdIxT wa wb) := ed_ix ix_tup sr_ixT ha hb hs
theorem ed_ixL (ha : ED X a wa) (hb : ED X b wb) (hs : PlainIx b := by exact fun _ _ => rfl) : ED X (.Subscript a b pos) (dOp rdIxL wa wb) := ed_ix ix_list sr_ixL ha hb hs
theorem ed_ixS (ha : ED X a wa) (hb : ED X b wb) (hs : PlainIx b := by exact fun _ _ => rfl) : ED X (.Subscript a b pos) (dOp rdIxS wa wb) := ed_ix ix_str sr_ixS ha hb hs
theorem SR2.or {K : PySem.W.Frag} {r r' : R2} {rd rd' : R2D} (h : SR2 K r rd) (h' : SR2 K r' rd') : SR2 K (fun x y H Q => r x y H Q ∨ r' x y H Q) (fun x y O S => rd x y O S ∨ rd' x y O S) := by
  intro F H θ O x y v u S j rx ry q Q k
  rcases q with q | q
  · exact .inl (h F H θ O x y v u S j rx ry q Q k)
  · exact .inr (h' F H θ O x y v u S j rx ry q Q k)
/-- xs[i] = e -/
def dgSubL (wo wi : DE) : DG := fun w δ O S => wo δ O fun o O1 => wi δ O1 fun i O2 => ∃ k ws n j, o = .cell k ∧ i = .int n ∧ O2[k]? = some (.lst ws) ∧ ixN ws.length n = some j ∧ S δ (O2.set k (.lst (ws.set j w)))
theorem eg_subL (ho : ED X a wa) (hi : ED X b wb) (ha : ∀ v, assign (.Subscript a b pos) X.env v = (do
      let ov ← holding [v] (eval a X.env)
      let iv ← holding [v, ov] (eval b X.env)
      standAt pos
      holding [v, ov, iv] (setItem ov iv v)
      release [v, ov, iv] []) := by intro _; rfl) : EDG X (.Subscript a b pos) (dgSubL wa wb) := by
  obtain ⟨t0, p0, s0⟩ := ho.ex
  obtain ⟨t1, p1, s1⟩ := hi.ex
  refine ⟨_, pg_sub p0 p1 set_list ha, fun F H θ O σ δ v w S j s r q Q k => ?_⟩
  refine s0 F H θ O σ δ _ j s q _ fun vo wo F1 H1 θ1 O1 g1 j1 r1 q1 => ?_
  refine s1 F1 H1 θ1 O1 σ δ _ j1 (s.mono g1) q1 _ fun vi wi F2 H2 θ2 O2 g2 j2 r2 q2 => ?_
  obtain ⟨c, ws, n, m, rfl, rfl, hc, hm, q2⟩ := q2
  obtain ⟨p, rfl, hp⟩ := r1.cell_inv
  obtain ⟨f, vs, hv, rr⟩ := j2.lst (g2.at hp) hc
  refine ⟨p, vs, n, m, rfl, r2.int_inv, hv, by rw [rr.length]; exact hm, ?_⟩
  have g := g1.trans g2
  exact k F2 _ θ2 _ σ δ g (j2.putL (g2.at hp) f (rr.set (r.mono g) m)) (s.mono g) q2

/-! ### slices -/
structure EDO (X : Cx) (e : Option Expr) (wo : DS → Sto → (Option Int → Sto → Prop) → Prop) : Prop where
  ex : ∃ to, PO X e to ∧ ∀ F H θ O σ δ S, Jn X.K F H θ O → RS X.K F θ σ δ → wo δ O S → ∀ Q : Option Int → Hp → Prop, (∀ o F' H' θ' O', Gr F θ F' θ' → Jn X.K F' H' θ' O' → S o O' → Q o H') → to σ H Q
def dNoPart : DS → Sto → (Option Int → Sto → Prop) → Prop := fun _ O S => S none O
def dPart (we : DE) : DS → Sto → (Option Int → Sto → Prop) → Prop := fun δ O S => we δ O fun w O1 => ∃ i, w = .int i ∧ S (some i) O1
theorem eo_none : EDO X none dNoPart := ⟨_, po_none, fun F H θ O σ δ S j s q Q k => k none F H θ O Gr.refl j q⟩
theorem eo_some (h : ED X e we) : EDO X (some e) (dPart we) := by
  obtain ⟨t0, p0, s0⟩ := h.ex
  refine ⟨_, po_some p0, fun F H θ O σ δ S j s q Q k => ?_⟩
  refine s0 F H θ O σ δ _ j s q _ fun v w F1 H1 θ1 O1 g1 j1 r1 q1 => ?_
  obtain ⟨i, rfl, q1⟩ := q1
  exact ⟨i, r1.int_inv, k _ F1 H1 θ1 O1 g1 j1 q1⟩
def cutW (xs : List W) (lo hi : Option Int) : List W := (xs.drop (HT.sIx xs.length 0 lo)).take (HT.sIx xs.length xs.length hi - HT.sIx xs.length 0 lo)
theorem cut_rel {K : PySem.W.Frag} {F : Hp} {θ : List Addr} {vs : List V} {ws : List W} (r : RWs K F θ vs ws) (lo hi : Option Int) : RWs K F θ (cutV vs lo hi) (cutW ws lo hi) := by
  unfold cutV cutW
  rw [r.length]
  exact (r.drop _).take _
def dSlL (we : DE) (wl wh : DS → Sto → (Option Int → Sto → Prop) → Prop) : DE := fun δ O S => we δ O fun w O1 => wl δ O1 fun lo O2 => wh δ O2 fun hi O3 => ∃ k ws, w = .cell k ∧ LstC O3 k ws ∧ S (.cell O3.length) (O3 ++ [.lst (cutW ws lo hi)])
theorem ed_slL {lo hi : Option Expr} {wl wh : DS → Sto → (Option Int → Sto → Prop) → Prop} {p2 : Pos} (he : ED X e we) (hl : EDO X lo wl) (hh : EDO X hi wh) : ED X (.Subscript e (.Slice lo hi none p2) pos) (dSlL we wl wh) := by
  obtain ⟨t0, p0, s0⟩ := he.ex
  obtain ⟨t1, p1, s1⟩ := hl.ex
  obtain ⟨t2, p2, s2⟩ := hh.ex
  refine ⟨_, pe_slice sl_list p0 p1 p2, fun F H θ O σ δ S j s q Q k => ?_⟩
  refine s0 F H θ O σ δ _ j s q _ fun v w F1 H1 θ1 O1 g1 j1 r1 q1 => ?_
  refine s1 F1 H1 θ1 O1 σ δ _ j1 (s.mono g1) q1 _ fun lo F2 H2 θ2 O2 g2 j2 q2 => ?_
  refine s2 F2 H2 θ2 O2 σ δ _ j2 (s.mono (g1.trans g2)) q2 _ fun hi F3 H3 θ3 O3 g3 j3 q3 => ?_
  obtain ⟨c, ws, rfl, hc, q3⟩ := q3
  obtain ⟨a, rfl, ha⟩ := r1.cell_inv
  obtain ⟨vs, hl, rr⟩ := j3.lstC ((g2.trans g3).at ha) hc
  refine ⟨a, vs, rfl, hl, fun p hp => ?_⟩
  exact k _ _ _ _ _ _ (((g1.trans g2).trans g3).trans Gr.push) (j3.newL hp (cut_rel rr lo hi)) (.cell (by rw [← j3.len]; simp)) q3

/-! ### calls of built-ins -/
abbrev RCD := List W → Sto → WK → Prop
def SRC (K : PySem.W.Frag) (r : List V → Hp → VK → Prop) (rd : RCD) : Prop := ∀ F H θ O vs ws S, Jn K F H θ O → RWs K F θ vs ws → rd ws O S → ∀ Q : VK, (∀ z w F' H' θ' O', Gr F θ F' θ' → Jn K F' H' θ' O' → RW K F' θ' z w → S w O' → Q z H') → r vs H Q
def dCB (rd : RCD) (wa : DA) : DE := fun δ O S => wa δ O fun ws O1 => rd ws O1 S
theorem ed_callB {x : Str} {id : String} {p : Pos} {r : List V → Hp → VK → Prop} {rd : RCD} (hc : CallR X (.builtin id) r) (hr : SRC X.K r rd) (hg : Gl X x) (hm : X.mg x = none) (hv : bootBuiltins x = some (.builtin id)) (ha : EDA X (e :: es) wr) (hn : x ≠ "__name__" := by decide) (hdb : (x == ("__debug__" : Str)) = false := by decide)
    (he : starEach (e :: es) X.env = (false, eval e X.env) :: starEach es X.env := by rfl) (hpl : (backTo pos (starEach es X.env)).any (·.1) = false := by rfl) : ED X (.Call (.Name x p) (e :: es) [] pos) (dCB rd wr) := by
  obtain ⟨t0, p0, s0⟩ := ha.ex
  refine ⟨_, pe_callB hc hg hm hv p0 hn hdb he hpl, fun F H θ O σ δ S j s q Q k => ?_⟩
  exact s0 F H θ O σ δ _ j s q _ fun vs ws F1 H1 θ1 O1 g1 j1 r1 q1 => hr F1 H1 θ1 O1 vs ws S j1 r1 q1 Q fun z w F2 H2 θ2 O2 g2 => k z w F2 H2 θ2 O2 (g1.trans g2)
theorem ed_callTy {x : Str} {T : String} {p : Pos} {r : List V → Hp → VK → Prop} {rd : RCD} (hc : CallR X (.type T) r) (hr : SRC X.K r rd) (hg : Gl X x) (hm : X.mg x = none) (hv : bootBuiltins x = some (.type T)) (ha : EDA X (e :: es) wr) (hn : x ≠ "__name__" := by decide) (hdb : (x == ("__debug__" : Str)) = false := by decide)
    (he : starEach (e :: es) X.env = (false, eval e X.env) :: starEach es X.env := by rfl) (hpl : (backTo pos (starEach es X.env)).any (·.1) = false := by rfl) : ED X (.Call (.Name x p) (e :: es) [] pos) (dCB rd wr) := by
  obtain ⟨t0, p0, s0⟩ := ha.ex
  refine ⟨_, pe_callTy hc hg hm hv p0 hn hdb he hpl, fun F H θ O σ δ S j s q Q k => ?_⟩
  exact s0 F H θ O σ δ _ j s q _ fun vs ws F1 H1 θ1 O1 g1 j1 r1 q1 => hr F1 H1 θ1 O1 vs ws S j1 r1 q1 Q fun z w F2 H2 θ2 O2 g2 => k z w F2 H2 θ2 O2 (g1.trans g2)
def rdLen : RCD := fun ws O S => (∃ us, ws = [.tup us] ∧ S (.int us.length) O) ∨ (∃ k us, ws = [.cell k] ∧ LstC O k us ∧ S (.int us.length) O)
theorem src_len {K : PySem.W.Frag} : SRC K (fun xs H Q => ∃ p ys, xs = [.ref p] ∧ (SqL K H p ys ∨ SqT K H p ys) ∧ Q (.int ys.length) H) rdLen := by
  intro F H θ O vs ws S j r q Q k
  rcases q with ⟨us, rfl, q⟩ | ⟨c, us, rfl, hc, q⟩
  · obtain ⟨v, rfl, rv⟩ := r.one_inv
    obtain ⟨a, xs, rfl, hq, rr⟩ := rv.tup_inv
    refine ⟨a, xs, rfl, .inr (sqT_sub j hq), ?_⟩
    rw [rr.length]
    exact k _ _ F H θ O Gr.refl j (.int _) q
  · obtain ⟨v, rfl, rv⟩ := r.one_inv
    obtain ⟨a, rfl, ha⟩ := rv.cell_inv
    obtain ⟨xs, hl, rr⟩ := j.lstC ha hc
    refine ⟨a, xs, rfl, .inl hl, ?_⟩
    rw [rr.length]
    exact k _ _ F H θ O Gr.refl j (.int _) q
def rdLenS : RCD := fun ws O S => ∃ z, ws = [.str z] ∧ z.length ≤ sizeLine ∧ S (.int z.length) O
theorem src_lenS {K : PySem.W.Frag} : SRC K (fun xs H Q => ∃ z, xs = [.str z] ∧ z.length ≤ sizeLine ∧ Q (.int z.length) H) rdLenS := by
  intro F H θ O vs ws S j r q Q k
  obtain ⟨z, rfl, hz, q⟩ := q
  obtain ⟨v, rfl, rv⟩ := r.one_inv
  exact ⟨z, by rw [rv.str_inv], hz, k _ _ F H θ O Gr.refl j (.int _) q⟩
def rdMax2 : RCD := fun ws O S => ∃ i j, ws = [.int i, .int j] ∧ S (.int (if j > i then j else i)) O
def rdMin2 : RCD := fun ws O S => ∃ i j, ws = [.int i, .int j] ∧ S (.int (if j < i then j else i)) O
theorem src_max2 {K : PySem.W.Frag} : SRC K (fun xs H Q => ∃ i j, xs = [.int i, .int j] ∧ Q (.int (if j > i then j else i)) H) rdMax2 := by
  intro F H θ O vs ws S j r q Q k
  obtain ⟨i, l, rfl, q⟩ := q
  obtain ⟨v, u, rfl, rv, ru⟩ := r.two_inv
  exact ⟨i, l, by rw [rv.int_inv, ru.int_inv], k _ _ F H θ O Gr.refl j (.int _) q⟩
theorem src_min2 {K : PySem.W.Frag} : SRC K (fun xs H Q => ∃ i j, xs = [.int i, .int j] ∧ Q (.int (if j < i then j else i)) H) rdMin2 := by
  intro F H θ O vs ws S j r q Q k
  obtain ⟨i, l, rfl, q⟩ := q
  obtain ⟨v, u, rfl, rv, ru⟩ := r.two_inv
  exact ⟨i, l, by rw [rv.int_inv, ru.int_inv], k _ _ F H θ O Gr.refl j (.int _) q⟩
def rdInt1 : RCD := fun ws O S => (∃ i, ws = [.int i] ∧ S (.int i) O) ∨ ∃ b, ws = [.bl b] ∧ S (.int (if b then 1 else 0)) O
theorem src_int1 {K : PySem.W.Frag} : SRC K (fun xs H Q => (∃ i, xs = [.int i] ∧ Q (.int i) H) ∨ ∃ k, xs = [.bl k] ∧ Q (.int (if k then 1 else 0)) H) rdInt1 := by
  intro F H θ O vs ws S j r q Q k
  rcases q with ⟨i, rfl, q⟩ | ⟨b, rfl, q⟩
  · obtain ⟨v, rfl, rv⟩ := r.one_inv
    exact .inl ⟨i, by rw [rv.int_inv], k _ _ F H θ O Gr.refl j (.int _) q⟩
  · obtain ⟨v, rfl, rv⟩ := r.one_inv
    exact .inr ⟨b, by rw [rv.bl_inv], k _ _ F H θ O Gr.refl j (.int _) q⟩
def rdSum : RCD := fun ws O S => ∃ (k : Nat) (ns : List Int), ws = [.cell k] ∧ LstC O k (ns.map W.int) ∧ S (.int ns.sum) O
theorem ints_rel {K : PySem.W.Frag} {F : Hp} {θ : List Addr} : ∀ {vs : List V} {ns : List Int}, RWs K F θ vs (ns.map W.int) → vs = ns.map V.int
  | _, [], r => by cases r; rfl
  | _, n :: ns, r => by
    cases r with
    | cons a b => rw [a.int_inv, ints_rel b]; rfl
theorem strs_rel {K : PySem.W.Frag} {F : Hp} {θ : List Addr} : ∀ {vs : List V} {ns : List Str}, RWs K F θ vs (ns.map W.str) → vs = ns.map V.str
  | _, [], r => by cases r; rfl
  | _, n :: ns, r => by
    cases r with
    | cons a b => rw [a.str_inv, strs_rel b]; rfl
theorem src_sum {K : PySem.W.Frag} : SRC K (rSum K) rdSum := by
  intro F H θ O vs ws S j r q Q k
  obtain ⟨c, ns, rfl, hc, q⟩ := q
  obtain ⟨v, rfl, rv⟩ := r.one_inv
  obtain ⟨a, rfl, ha⟩ := rv.cell_inv
  obtain ⟨xs, hl, rr⟩ := j.lstC ha hc
  exact ⟨a, ns, rfl, by rw [← ints_rel rr]; exact hl, k _ _ F H θ O Gr.refl j (.int _) q⟩
def rdStrI : RCD := fun ws O S => ∃ i, ws = [.int i] ∧ i.natAbs.log2 < 1920 ∧ S (.str (toString i)) O
theorem src_strI {K : PySem.W.Frag} : SRC K (fun xs H Q => ∃ i, xs = [.int i] ∧ i.natAbs.log2 < 1920 ∧ Q (.str (toString i)) H) rdStrI := by
  intro F H θ O vs ws S j r q Q k
  obtain ⟨i, rfl, hi, q⟩ := q
  obtain ⟨v, rfl, rv⟩ := r.one_inv
  exact ⟨i, by rw [rv.int_inv], hi, k _ _ F H θ O Gr.refl j (.str _) q⟩
/-- list(..), tuple(..) of a list, a tuple -/
def rdListOf : RCD := fun ws O S => (∃ us, ws = [.tup us] ∧ S (.cell O.length) (O ++ [.lst us])) ∨ ∃ k us, ws = [.cell k] ∧ LstC O k us ∧ S (.cell O.length) (O ++ [.lst us])
theorem src_listOf {K : PySem.W.Frag} : SRC K (fun xs H Q => ∃ p ys, xs = [.ref p] ∧ (SqL K H p ys ∨ SqT K H p ys) ∧ ∀ l, H l = none → Q (.ref l) (L2.upd H l (.lst ys))) rdListOf := by
  intro F H θ O vs ws S j r q Q k
  rcases q with ⟨us, rfl, q⟩ | ⟨c, us, rfl, hc, q⟩
  · obtain ⟨v, rfl, rv⟩ := r.one_inv
    obtain ⟨a, xs, rfl, hq, rr⟩ := rv.tup_inv
    exact ⟨a, xs, rfl, .inr (sqT_sub j hq), fun p hp => k _ _ _ _ _ _ Gr.push (j.newL hp rr) (.cell (by rw [← j.len]; simp)) q⟩
  · obtain ⟨v, rfl, rv⟩ := r.one_inv
    obtain ⟨a, rfl, ha⟩ := rv.cell_inv
    obtain ⟨xs, hl, rr⟩ := j.lstC ha hc
    exact ⟨a, xs, rfl, .inl hl, fun p hp => k _ _ _ _ _ _ Gr.push (j.newL hp rr) (.cell (by rw [← j.len]; simp)) q⟩
def rdTupOf : RCD := fun ws O S => (∃ us, ws = [.tup us] ∧ S (.tup us) O) ∨ ∃ k us, ws = [.cell k] ∧ LstC O k us ∧ S (.tup us) O
theorem src_tupOf {K : PySem.W.Frag} : SRC K (fun xs H Q => ∃ p ys, xs = [.ref p] ∧ ((SqL K H p ys ∧ ∀ l, H l = none → Q (.ref l) (L2.upd H l (.tup ys))) ∨ (SqT K H p ys ∧ Q (.ref p) H))) rdTupOf := by
  intro F H θ O vs ws S j r q Q k
  rcases q with ⟨us, rfl, q⟩ | ⟨c, us, rfl, hc, q⟩
  · obtain ⟨v, rfl, rv⟩ := r.one_inv
    obtain ⟨a, xs, rfl, hq, rr⟩ := rv.tup_inv
    exact ⟨a, xs, rfl, .inr ⟨sqT_sub j hq, k _ _ F H θ O Gr.refl j rv q⟩⟩
  · obtain ⟨v, rfl, rv⟩ := r.one_inv
    obtain ⟨a, rfl, ha⟩ := rv.cell_inv
    obtain ⟨xs, hl, rr⟩ := j.lstC ha hc
    refine ⟨a, xs, rfl, .inl ⟨hl, fun p hp => ?_⟩⟩
    have g2 : Gr F θ (L2.upd F p (.tup xs)) θ := Gr.upd (j.freeF hp)
    exact k _ _ _ _ _ _ g2 (j.newT hp) (.tup (.inl (.inl upd_same)) (rr.mono g2)) q

/-! ### methods -/
abbrev RMD := W → List W → Sto → WK → Prop
def SRM (K : PySem.W.Frag) (T : String) (r : V → List V → Hp → VK → Prop) (rd : RMD) : Prop := ∀ F H θ O v x vs ws S, Jn K F H θ O → RW K F θ v x → RWs K F θ vs ws → rd x ws O S → ∀ Q : VK, (∀ z w F' H' θ' O', Gr F θ F' θ' → Jn K F' H' θ' O' → RW K F' θ' z w → S w O' → Q z H') → r v vs H Q
/-- what a method's receiver is, ahead of the arguments -/
def STy (K : PySem.W.Frag) (T : String) (ok : W → Sto → Prop) : Prop := ∀ F H θ O v x, Jn K F H θ O → RW K F θ v x → ok x O → tyV K T v H
def okL (x : W) (O : Sto) : Prop := ∃ k ws, x = .cell k ∧ LstC O k ws
def okS (x : W) (_ : Sto) : Prop := ∃ z, x = .str z
theorem sty_L {K : PySem.W.Frag} : STy K "list" okL := by
  intro F H θ O v x j r h
  obtain ⟨c, ws, rfl, hc⟩ := h
  obtain ⟨a, rfl, ha⟩ := r.cell_inv
  obtain ⟨vs, hl, _⟩ := j.lstC ha hc
  exact .inl ⟨rfl, vs, hl⟩
theorem sty_S {K : PySem.W.Frag} : STy K "str" okS := by
  intro F H θ O v x j r h
  obtain ⟨z, rfl⟩ := h
  rw [r.str_inv]
  rfl
def dBM (ok : W → Sto → Prop) (rd : RMD) (wo : DE) (wa : DA) : DE := fun δ O S => wo δ O fun x O1 => ok x O1 ∧ wa δ O1 fun ws O2 => rd x ws O2 S
theorem ed_bm {name : Str} {apos cpos : Pos} {T id : String} {r : V → List V → Hp → VK → Prop} {rd : RMD} {ok : W → Sto → Prop} (pa : PlainAttrs T) (slot : Slot T name id) (hty : typeOf (.builtin id) = pure (.type "method_descriptor")) (hm : MtR X id r) (hs : STy X.K T ok) (hr : SRM X.K T r rd) (ho : ED X a wa) (ha : EDA X (e :: es) wr)
    (hbase : attributeBase a name X.env (eval a X.env) = eval a X.env := by rfl) (hline : (apos.endLine == cpos.line) = true := by rfl)
    (hplain : (((backTo cpos (starEach (e :: es) X.env)).all (!·.1)) && (backToKw cpos (keywordEach [] X.env)).all (·.1.isSome) && decide ((e :: es).length + ([] : List Keyword).length + (if ([] : List Keyword).isEmpty then 0 else 1) < 30)) = true := by rfl)
    (hst : starEach (e :: es) X.env = (false, eval e X.env) :: starEach es X.env := by rfl) (hpl : (backTo cpos (starEach es X.env)).any (·.1) = false := by rfl) : ED X (.Call (.Attribute a name apos) (e :: es) [] cpos) (dBM ok rd wa wr) := by
  obtain ⟨t0, p0, s0⟩ := ho.ex
  obtain ⟨t1, p1, s1⟩ := ha.ex
  refine ⟨_, pe_bm pa slot hty hm p0 p1 hbase hplain hline hst hpl, fun F H θ O σ δ S j s q Q k => ?_⟩
  refine s0 F H θ O σ δ _ j s q _ fun v x F1 H1 θ1 O1 g1 j1 r1 q1 => ⟨hs F1 H1 θ1 O1 v x j1 r1 q1.1, ?_⟩
  refine s1 F1 H1 θ1 O1 σ δ _ j1 (s.mono g1) q1.2 _ fun vs ws F2 H2 θ2 O2 g2 j2 r2 q2 => ?_
  exact hr F2 H2 θ2 O2 v x vs ws S j2 (r1.mono g2) r2 q2 Q fun z w F3 H3 θ3 O3 g3 => k z w F3 H3 θ3 O3 ((g1.trans g2).trans g3)
def rdAppend : RMD := fun x ws O S => ∃ k us w, x = .cell k ∧ ws = [w] ∧ O[k]? = some (.lst us) ∧ us.length < sizeLine ∧ S .non (O.set k (.lst (us ++ [w])))
theorem srm_append {K : PySem.W.Frag} : SRM K "list" rAppend rdAppend := by
  intro F H θ O v x vs ws S j r rs q Q k
  obtain ⟨c, us, w, rfl, rfl, hc, hz, q⟩ := q
  obtain ⟨a, rfl, ha⟩ := r.cell_inv
  obtain ⟨y, rfl, ry⟩ := rs.one_inv
  obtain ⟨f, xs, hx, rr⟩ := j.lst ha hc
  exact ⟨a, xs, y, rfl, rfl, hx, by rw [rr.length]; exact hz, k _ _ F _ θ _ Gr.refl (j.putL ha f (rr.append (.cons ry .nil))) .non q⟩
def rdPopAt : RMD := fun x ws O S => ∃ k us i n w, x = .cell k ∧ ws = [.int i] ∧ O[k]? = some (.lst us) ∧ -(2 ^ 63) ≤ i ∧ i < 2 ^ 63 ∧ seqIndex? i us.length = some n ∧ us[n]? = some w ∧ S w (O.set k (.lst (us.eraseIdx n)))
theorem srm_popAt {K : PySem.W.Frag} : SRM K "list" rPopAt rdPopAt := by
  intro F H θ O v x vs ws S j r rs q Q k
  obtain ⟨c, us, i, n, w, rfl, rfl, hc, h1, h2, hn, hw, q⟩ := q
  obtain ⟨a, rfl, ha⟩ := r.cell_inv
  obtain ⟨y, rfl, ry⟩ := rs.one_inv
  obtain ⟨f, xs, hx, rr⟩ := j.lst ha hc
  obtain ⟨z, hz, rz⟩ := rr.get hw
  exact ⟨a, xs, i, n, z, rfl, by rw [ry.int_inv], hx, h1, h2, by rw [rr.length]; exact hn, hz, k _ _ F _ θ _ Gr.refl (j.putL ha f (rr.erase n)) rz q⟩
def rdInsert : RMD := fun x ws O S => ∃ k us i w, x = .cell k ∧ ws = [.int i, w] ∧ O[k]? = some (.lst us) ∧ us.length < sizeLine ∧ 0 ≤ i ∧ i < 2 ^ 63 ∧ S .non (O.set k (.lst (us.take i.toNat ++ [w] ++ us.drop i.toNat)))
theorem srm_insert {K : PySem.W.Frag} : SRM K "list" (fun x vs H Q => ∃ (l : Addr) (xs : List V) (i : Int) (y : V), x = .ref l ∧ vs = [.int i, y] ∧ H l = some (.lst xs) ∧ xs.length < sizeLine ∧ 0 ≤ i ∧ i < 2 ^ 63 ∧ Q .non (L2.upd H l (.lst (xs.take i.toNat ++ [y] ++ xs.drop i.toNat)))) rdInsert := by
  intro F H θ O v x vs ws S j r rs q Q k
  obtain ⟨c, us, i, w, rfl, rfl, hc, hz, h0, h1, q⟩ := q
  obtain ⟨a, rfl, ha⟩ := r.cell_inv
  obtain ⟨y, z, rfl, ry, rz⟩ := rs.two_inv
  obtain ⟨f, xs, hx, rr⟩ := j.lst ha hc
  exact ⟨a, xs, i, z, rfl, by rw [ry.int_inv], hx, by rw [rr.length]; exact hz, h0, h1, k _ _ F _ θ _ Gr.refl (j.putL ha f (((rr.take _).append (.cons rz .nil)).append (rr.drop _))) .non q⟩
def rdJoin : RMD := fun x ws O S => ∃ (a : Str) (ys : List Str), x = .str a ∧ ((∃ k, ws = [.cell k] ∧ LstC O k (ys.map W.str)) ∨ ws = [.tup (ys.map W.str)]) ∧ (ys.map (·.length)).sum + ys.length * a.length ≤ 16777216 ∧ S (.str (Txt.join a ys)) O
theorem srm_join {K : PySem.W.Frag} : SRM K "str" (fun x xs H Q => ∃ a p, ∃ ys : List Str, x = .str a ∧ xs = [.ref p] ∧ (SqL K H p (ys.map V.str) ∨ SqT K H p (ys.map V.str)) ∧ (ys.map (·.length)).sum + ys.length * a.length ≤ 16777216 ∧ Q (.str (Txt.join a ys)) H) rdJoin := by
  intro F H θ O v x vs ws S j r rs q Q k
  obtain ⟨a, ys, rfl, h, hz, q⟩ := q
  rcases h with ⟨c, rfl, hc⟩ | rfl
  · obtain ⟨y, rfl, ry⟩ := rs.one_inv
    obtain ⟨p, rfl, hp⟩ := ry.cell_inv
    obtain ⟨xs, hl, rr⟩ := j.lstC hp hc
    exact ⟨a, p, ys, r.str_inv, rfl, .inl (by rw [← strs_rel rr]; exact hl), hz, k _ _ F H θ O Gr.refl j (.str _) q⟩
  · obtain ⟨y, rfl, ry⟩ := rs.one_inv
    obtain ⟨p, xs, rfl, hq, rr⟩ := ry.tup_inv
    exact ⟨a, p, ys, r.str_inv, rfl, .inr (by rw [← strs_rel rr]; exact sqT_sub j hq), hz, k _ _ F H θ O Gr.refl j (.str _) q⟩
end
end Dm

set_option Elab.async false
set_option linter.all false
set_option maxRecDepth 100000
set_option maxHeartbeats 4000000
/-! len(set(texts)), of any number of texts below 4000: how many unlike ones. -/
namespace Dm
open PySem PySem.Spec PyProof.Rows L2

/-- how many unlike texts are among the first i -/
def nD (xs : List Str) : Nat → Nat
  | 0 => 0
  | i + 1 => if (xs.take i).any (· == xs.getD i Str.empty) = true then nD xs i else nD xs i + 1
theorem nD_le (xs : List Str) : ∀ i, nD xs i ≤ i
  | 0 => Nat.le_refl _
  | i + 1 => by
    have h := nD_le xs i
    unfold nD
    split <;> omega
theorem take_any {xs : List Str} {i : Nat} (h : i < xs.length) (k : Str) : ((xs.take i).any (· == k) || decide (k = xs.getD i Str.empty)) = (xs.take (i + 1)).any (· == k) := by
  have e : xs.getD i Str.empty = xs[i] := by simp [List.getD, h]
  rw [List.take_add_one, List.getElem?_eq_getElem h, List.any_append, e]
  congr 1
  by_cases q : k = xs[i]
  · subst q
    simp
  · have : (xs[i] == k) = false := by simpa using fun z : xs[i] = k => q z.symm
    simp [this, q]
section
variable {prog : Program} {w : World} {A : Around} {R : Result → Shared → Prop} {E : Value → Shared → Prop} {I : Addr} {fp wr : List Addr} {G : Array GenState → Array GenState → Prop} {n : Nat} {P : Nat → Value → Prop} {St : Nat → Shared → Prop}
theorem setOf_get {h h' : Heap} {S : Addr} {f : Str → Bool} {m : Nat} (x : h.SetOf (PySem.strKind prog w) S f m) (k : ∀ o, h.get? S = some o → h'.get? S = some o) : h'.SetOf (PySem.strKind prog w) S f m :=
  let ⟨o, es, ep, t, ho, rest⟩ := x
  ⟨o, es, ep, t, k o ho, rest⟩
/-- the members are laid one behind another -/
theorem setLoop (W : WalksS prog w A.in1 I fp wr G n P St) (S : Addr) (nS : S ∉ fp) (xs : List Str) (en : xs.length = n) (room : n + 1 < scanBound) (val : ∀ i v, P i v → ∃ t, v = .str (xs.getD i Str.empty) t) : ∀ (k i : Nat) (s : Shared), n - i = k → i ≤ n → St i s →
    s.heap.SetOf (PySem.strKind prog w) S (fun z => (xs.take i).any (· == z)) (nD xs i) → (∀ s', Moved (S :: wr) G s s' → s'.heap.SetOf (PySem.strKind prog w) S (fun z => (xs.take n).any (· == z)) (nD xs n) → R (.ok (.ret .none)) s') →
    codeAny (model prog w) A (.builtin "set.update.loop" ⟨[.ref S, .ref I], []⟩) R s := by
  have nW : S ∉ wr := fun z => nS (W.sub _ z)
  have more : ∀ b ∈ wr, b ∈ S :: wr := fun b z => List.mem_cons_of_mem _ z
  intro k
  induction k with
  | zero =>
    intro i s hk hi st hS fin
    obtain rfl : i = n := by omega
    refine codeAny_builtin PyProof.Rows.F.entry_set_update_loop ?_
    rw [Around.under_plainId PyProof.Rows.F.plain_set_update_loop _]
    show wpAny _ A.in1 (pyNext (.ref I) >>= _) _ _ s
    exact wpAny_bind (W.done s _ _ st fun s' mv => (show wpAny _ A.in1 (ret Value.none) _ _ s' from wpAny_pure (fin s' (mv.mono more) (setOf_get hS fun o ho => mv.heap S o nW ho))))
  | succ k ih =>
    intro i s hk hi st hS fin
    have lt : i < n := by omega
    refine codeAny_builtin PyProof.Rows.F.entry_set_update_loop ?_
    rw [Around.under_plainId PyProof.Rows.F.plain_set_update_loop _]
    show wpAny _ A.in1 (pyNext (.ref I) >>= _) _ _ s
    refine wpAny_bind (W.item i s _ _ lt st fun v s' hP st' mv => ?_)
    obtain ⟨t, rfl⟩ := val i v hP
    have hS1 := setOf_get hS fun o ho => mv.heap S o nW ho
    show wpAny _ A.in1 (holding [Value.str (xs.getD i Str.empty) t] (setAdd S (.str (xs.getD i Str.empty) t)) >>= _) _ _ s'
    refine wpAny_bind (wpAny_holding ?_)
    unfold setAdd
    refine wpAny_holding (wpAny_bind ((PySem.strKind prog w).pyHash (k := xs.getD i Str.empty) (strKind_is _ _ _ _) ?_))
    refine wpAny_setAddHashed_of (knd := PySem.strKind prog w) (s := { s' with toks := s'.toks + 1 }) (strKind_is _ _ _ _) rfl hS1 (by have := nD_le xs i; omega) fun h' sb hS2 => ?_
    have hS3 : h'.SetOf (PySem.strKind prog w) S (fun z => (xs.take (i + 1)).any (· == z)) (nD xs (i + 1)) := PyProof.Rows.SetOf_congr hS2 (fun z => take_any (by omega) z) (by rw [show nD xs (i + 1) = if (xs.take i).any (· == xs.getD i Str.empty) = true then nD xs i else nD xs i + 1 from rfl])
    refine wpAny_pure ⟨plainId_quiet PyProof.Rows.F.plain_set_update_loop _, ih (i + 1) _ (by omega) lt (W.frame _ s' _ _ st' (Nat.le_succ _) fun b hb o e => (sb.2 b fun z : b = S => nS (z ▸ hb)).trans e) hS3 fun s2 mv2 hS4 => fin s2 (Moved.trans W.gtrans ((mv.mono more).then_heap (Nat.le_succ _) fun b o hb e => (sb.2 b fun z : b = S => hb (z ▸ List.mem_cons_self)).trans e) mv2) hS4⟩
end
/-- an empty set, new -/
abbrev eSet (led : Bool) : Obj := { cls := .type "set", dict := none, data := .set #[] 0 (.fresh 0 0 led) }
section
variable {prog : Program} {w : World} {A : Around} {E : Value → Shared → Prop} {s : Shared}
theorem strs_nth {us : List Value} {xs : List Str} (h : PyProof.Rows.StrsAre us xs) : ∀ (i : Nat) (v : Value), us[i]? = some v → ∃ t, v = .str (xs.getD i Str.empty) t := by
  induction h with
  | nil =>
    intro i v e
    simp at e
  | cons n t hr ih =>
    intro i v e
    cases i with
    | zero =>
      simp at e
      exact ⟨t, by rw [← e]; rfl⟩
    | succ i =>
      rw [List.getElem?_cons_succ] at e
      obtain ⟨t', q⟩ := ih i v e
      exact ⟨t', by rw [q]; rfl⟩
set_option maxHeartbeats 6400000 in
/-- set(xs) of a list or a tuple of texts -/
theorem callSet {l : Addr} {T IT : String} {items : Array Value} {xs : List Str} {Q : Value → Shared → Prop} (hT : (T = "list" ∧ IT = "list_iterator") ∨ (T = "tuple" ∧ IT = "tuple_iterator")) (hh : A.handled = none) (ho : ∃ o n, s.heap.get? l = some o ∧ o.cls = .type T ∧ o.data = .seq items n) (hi : PyProof.Rows.StrsAre items.toList xs) (room : xs.length + 1 < scanBound)
    (h : ∀ (h' : Heap) (tk : Nat), h'.SetOf (PySem.strKind prog w) s.heap.objs.size (fun z => (xs.take items.size).any (· == z)) (nD xs items.size) → (∀ b o, b < s.heap.objs.size → s.heap.get? b = some o → h'.get? b = some o) → Q (.ref s.heap.objs.size) { s with heap := h', toks := tk }) :
    wpAny (model prog w) A (call (.type "set") [.ref l]) Q E s := by
  obtain ⟨cM, tM, hmro⟩ := PySem.F.called_set.mro
  have q1 := PySem.F.called_set.made
  have q2 := PySem.F.called_set.sub
  refine wpAny_call (codeAny_of_tree (show wpAny _ _ (callAny (.type "set") _) _ _ _ from wpAny_pure ⟨Code.quiet_builtin _ (by decide +kernel), codeAny_builtin PySem.F.entry_type_call ?_⟩))
  rw [Around.under_plain (weight_type_call_type "set" [.ref l] []) rfl]
  have q3 := PySem.F.called_set.notType
  have q4 := PySem.F.called_set.canCreate
  have q5 := PySem.F.typeCall_set_1 (.ref l)
  repeat (any_goals (first | assumption | wp_step))
  refine codeAny_mono (code_set_new_1 (.ref l) (E := E) (Q₁ := fun x s₁ => ∃ led : Bool, x = .ref s.heap.objs.size ∧ s₁ = { s with heap := s.heap.push (eSet led) }) fun led => ⟨led, rfl, rfl⟩) fun r s₁ hr => ?_
  cases r with
  | error e => exact hr
  | ok fl =>
    cases fl with
    | ret x =>
      obtain ⟨led, rfl, rfl⟩ := hr
      have atS : (s.heap.push (eSet led)).get? s.heap.objs.size = some (eSet led) := Heap.get?_push_size _ rfl
      have tyS : Shared.TypeIs { s with heap := s.heap.push (eSet led) } (.ref s.heap.objs.size) "set" := ⟨_, atS, rfl⟩
      have q6 := PySem.F.called_set.init.lookup
      have q7 := PySem.F.called_set.init.bind (.ref s.heap.objs.size)
      repeat (any_goals (first | assumption | wp_step))
      refine codeAny_mono (codeAny_call_builtin (R := wants (fun r s₂ => r = .none ∧ ∃ h' tk, s₂ = { s with heap := h', toks := tk } ∧ h'.SetOf (PySem.strKind prog w) s.heap.objs.size (fun z => (xs.take items.size).any (· == z)) (nD xs items.size) ∧ (∀ b o, b < s.heap.objs.size → s.heap.get? b = some o → h'.get? b = some o)) E) PySem.F.called_set.init.plain PySem.F.entry_set_init (check_set_init_1 tyS ?_)) fun r₂ s₂ hr₂ => ?_
      · obtain ⟨⟨oc, od, oda, osl⟩, nl, hol, hcl, hdl⟩ := ho
        simp only at hcl hdl
        subst hcl
        subst hdl
        have lS : l < s.heap.objs.size := Heap.lt_size hol
        have ol1 : (s.heap.push (eSet led)).get? l = some { cls := .type T, dict := od, data := .seq items nl, slots := osl } := Heap.get?_push_of_some _ hol
        have nI : l ≠ (s.heap.push (eSet led)).objs.size := by
          rw [Heap.size_push]
          exact Nat.ne_of_lt (Nat.lt_succ_of_lt lS)
        have nS : s.heap.objs.size ∉ [(s.heap.push (eSet led)).objs.size, l] := by
          rw [Heap.size_push]
          simp only [List.mem_cons, List.not_mem_nil, or_false, not_or]
          exact ⟨Nat.ne_of_lt (Nat.lt_succ_self _), Nat.ne_of_gt lS⟩
        have en : xs.length = items.size := by rw [← StrsAre.len_eq hi, Array.length_toList]
        have hv : ∀ (i : Nat) (v : Value), items[i]? = some v → ∃ t, v = .str (xs.getD i Str.empty) t := fun i v e => strs_nth hi i v (by rw [Array.getElem?_toList]; exact e)
        have h3 : A.in1.in1.in1.handled = none := by simp [hh]
        have zero : ∀ ob : Obj, ((s.heap.push (eSet led)).push ob).SetOf (PySem.strKind prog w) s.heap.objs.size (fun z => (xs.take 0).any (· == z)) (nD xs 0) := fun ob =>
          PyProof.Rows.SetOf_congr ((PyProof.Rows.setObjOf_fresh (knd := PySem.strKind prog w) led).setOf (Heap.get?_push_of_some ob atS) (by unfold scanBound; omega)) (fun _ => rfl) rfl
        rcases hT with ⟨rfl, rfl⟩ | ⟨rfl, rfl⟩
        · have hl1 : (s.heap.push (eSet led)).IsList l items := ⟨_, ol1, rfl, nl, rfl⟩
          have d1 := PySem.F.sub_list_set
          have d2 := PySem.F.sub_list_frozenset
          have d3 : (Value.type "list" == Value.type "dict") = false := by decide
          unfold Builtin.«set.__init__» noKeywords Builtin.Frozenset.updateFrom
          generalize hPI : pyIter = PI
          wp_walk
          subst hPI
          refine wpAny_pyIter_list hl1 (wpAny_bind (wpAny_runValue ?_))
          refine setLoop ((Walks.list h3 _ l nI items).toS) s.heap.objs.size nS xs en (by omega) hv (items.size - 0) 0 _ (by omega) (Nat.zero_le _) ⟨⟨_, Heap.get?_push_size _ rfl, rfl, rfl⟩, (hl1.push _)⟩ (zero _) ?_
          rintro ⟨h', g', d', tk', os'⟩ mv hS'
          obtain rfl : g' = s.gens := mv.gens
          obtain rfl : d' = s.drawn := mv.drawn
          obtain rfl : os' = s.os := mv.os
          show wpAny _ _ _ _ _ _
          refine wpAny_pure (show wpAny _ _ (ret Value.none) _ _ _ from wpAny_pure ⟨rfl, h', tk', rfl, hS', fun b o hb e => ?_⟩)
          refine mv.heap b o ?_ (Heap.get?_push_of_some _ (Heap.get?_push_of_some _ e))
          rw [Heap.size_push]
          simp only [List.mem_cons, List.not_mem_nil, or_false, not_or]
          exact ⟨Nat.ne_of_lt hb, Nat.ne_of_lt (Nat.lt_succ_of_lt hb)⟩
        · have hl1 : (s.heap.push (eSet led)).IsTuple l items := ⟨_, ol1, rfl, nl, rfl⟩
          have d1 := PySem.F.sub_tuple_set
          have d2 := PySem.F.sub_tuple_frozenset
          have d3 : (Value.type "tuple" == Value.type "dict") = false := by decide
          unfold Builtin.«set.__init__» noKeywords Builtin.Frozenset.updateFrom
          generalize hPI : pyIter = PI
          wp_walk
          subst hPI
          refine wpAny_pyIter_tuple hl1 (wpAny_bind (wpAny_runValue ?_))
          refine setLoop ((Walks.tuple h3 _ l nI items).toS) s.heap.objs.size nS xs en (by omega) hv (items.size - 0) 0 _ (by omega) (Nat.zero_le _) ⟨⟨_, Heap.get?_push_size _ rfl, rfl, rfl⟩, (hl1.push _)⟩ (zero _) ?_
          rintro ⟨h', g', d', tk', os'⟩ mv hS'
          obtain rfl : g' = s.gens := mv.gens
          obtain rfl : d' = s.drawn := mv.drawn
          obtain rfl : os' = s.os := mv.os
          show wpAny _ _ _ _ _ _
          refine wpAny_pure (show wpAny _ _ (ret Value.none) _ _ _ from wpAny_pure ⟨rfl, h', tk', rfl, hS', fun b o hb e => ?_⟩)
          refine mv.heap b o ?_ (Heap.get?_push_of_some _ (Heap.get?_push_of_some _ e))
          rw [Heap.size_push]
          simp only [List.mem_cons, List.not_mem_nil, or_false, not_or]
          exact ⟨Nat.ne_of_lt hb, Nat.ne_of_lt (Nat.lt_succ_of_lt hb)⟩
      · cases r₂ with
        | error e => exact hr₂
        | ok fl₂ =>
          cases fl₂ with
          | ret r =>
            obtain ⟨rfl, h', tk, rfl, hS', hk'⟩ := hr₂
            repeat (any_goals (first | assumption | wp_step))
            exact h _ _ hS' hk'
          | _ => exact hr₂.elim
    | _ => exact hr.elim
end
/-- len(set(xs)) -/
def tLenS (K : PySem.W.Frag) (ta : TE) : TE := fun σ H Q => ta σ H fun x H1 => ∃ l, ∃ xs : List Str, x = .ref l ∧ (SqL K H1 l (xs.map V.str) ∨ SqT K H1 l (xs.map V.str)) ∧ xs.length < 4000 ∧ Q (.int (nD xs xs.length : Nat)) H1
theorem pe_lenS {X : Cx} {a : Expr} {ta : TE} {p p2 q pos : Pos} (hc : X.calm = true) (hg : Gl X "len") (hm : X.mg "len" = none) (hg2 : Gl X "set") (hm2 : X.mg "set" = none) (ha : PE X a ta)
    (na : starEach [a] X.env = (false, eval a X.env) :: starEach [] X.env := by rfl) : PE X (.Call (.Name "len" p) [.Call (.Name "set" p2) [a] [] q] [] pos) (tLenS X.K ta) := by
  refine ⟨fun pins s σ H Q I h => Call_ (ld_blt I hg hm boot_len ?_)⟩
  refine PyProof.Rows.callWith_builtin1 (PyProof.Rows.args_cons (Call_ (ld_blt I hg2 hm2 boot_set ?_)) rfl) rfl rfl
  refine PyProof.Rows.callWith_type1 (PyProof.Rows.args_cons (thn (ha.run pins s σ H _ I h) fun v s1 ⟨x, H1, I1, r1, q1⟩ => PyProof.Rows.args_nil ?_) na) na rfl
  obtain ⟨l, xs, rfl, hq, h1, q1⟩ := q1
  cases r1
  have room : xs.length + 1 < scanBound := by unfold scanBound; omega
  have fin : ∀ (its : List Value), Vals (xs.map V.str) its → ∀ (h' : Heap) (tk : Nat), h'.SetOf (PySem.strKind X.prog X.w) s1.heap.objs.size (fun z => (xs.take its.toArray.size).any (· == z)) (nD xs its.toArray.size) →
      (∀ b o, b < s1.heap.objs.size → s1.heap.get? b = some o → h'.get? b = some o) →
      wpAny (model X.prog X.w) X.A (spliced (backTo pos (starEach [] X.env))) (fun vs s₂ => wpAny (model X.prog X.w) X.A (call (.builtin "len") (Value.ref s1.heap.objs.size :: vs)) (EP X pins σ Q) X.xe s₂) X.xe { s1 with heap := h', toks := tk } := fun its r h' tk hS hk => by
    refine PyProof.Rows.args_nil ?_
    have hl : its.toArray.size = xs.length := by rw [List.size_toArray, ← r.length, List.length_map]
    rw [hl] at hS
    obtain ⟨o, es, ep, t, ho, hex, hd, _, _, _, hf, hn⟩ := hS
    have hb := nD_le xs xs.length
    have I2 : Inv X pins σ H1 { s1 with heap := h', toks := tk } := I1.kept fun b o e => hk b o (Heap.lt_size e) e
    exact call_len_set ho hex hd hf (by rw [hn]; omega) ⟨.int (nD xs xs.length : Nat), H1, I2.tok _, ⟨_, by rw [hn]⟩, q1⟩
  rcases hq with hq | hq
  · obtain ⟨its, r, pl, hz⟩ := I1.list hq
    obtain ⟨o, ho, hcl, n, hd⟩ := pl.isList
    exact callSet (.inl ⟨rfl, rfl⟩) (I1.ok.hd hc) ⟨o, n, ho, hcl, hd⟩ (by simpa using strsAre_of r) room fun h' tk hS hk => fin its r h' tk hS hk
  · obtain ⟨its, r, pl, hz⟩ := I1.tuple hq
    obtain ⟨o, ho, hcl, n, hd⟩ := pl
    exact callSet (.inr ⟨rfl, rfl⟩) (I1.ok.hd hc) ⟨o, n, ho, hcl, hd⟩ (by simpa using strsAre_of r) room fun h' tk hS hk => fin its r h' tk hS hk
def dLenSet (wa : DE) : DE := fun δ O S => wa δ O fun x O1 => ∃ xs : List Str, ((∃ k, x = .cell k ∧ LstC O1 k (xs.map W.str)) ∨ x = .tup (xs.map W.str)) ∧ xs.length < 4000 ∧ S (.int (nD xs xs.length : Nat)) O1
theorem ed_lenSet {X : Cx} {a : Expr} {wa : DE} {p p2 q pos : Pos} (hc : X.calm = true) (hg : Gl X "len") (hm : X.mg "len" = none) (hg2 : Gl X "set") (hm2 : X.mg "set" = none) (ha : ED X a wa)
    (na : starEach [a] X.env = (false, eval a X.env) :: starEach [] X.env := by rfl) : ED X (.Call (.Name "len" p) [.Call (.Name "set" p2) [a] [] q] [] pos) (dLenSet wa) := by
  obtain ⟨t0, p0, s0⟩ := ha.ex
  refine ⟨_, pe_lenS hc hg hm hg2 hm2 p0 na, fun F H θ O σ δ S j s q Q k => ?_⟩
  refine s0 F H θ O σ δ _ j s q _ fun v x F1 H1 θ1 O1 g1 j1 r1 q1 => ?_
  obtain ⟨xs, h, hz, q1⟩ := q1
  rcases h with ⟨c, rfl, hcl⟩ | rfl
  · obtain ⟨l, rfl, hl⟩ := r1.cell_inv
    obtain ⟨vs, hv, rr⟩ := j1.lstC hl hcl
    exact ⟨l, xs, rfl, .inl (by rw [← strs_rel rr]; exact hv), hz, k _ _ F1 H1 θ1 O1 g1 j1 (.int _) q1⟩
  · obtain ⟨l, vs, rfl, hq, rr⟩ := r1.tup_inv
    exact ⟨l, xs, rfl, .inr (by rw [← strs_rel rr]; exact sqT_sub j1 hq), hz, k _ _ F1 H1 θ1 O1 g1 j1 (.int _) q1⟩
/-- all unlike: as many as there are -/
theorem nD_nodup (xs : List Str) : ∀ i, i ≤ xs.length → (nD xs i = i ↔ (xs.take i).Nodup)
  | 0, _ => by simp [nD]
  | i + 1, h => by
    have lt : i < xs.length := by omega
    have ih := nD_nodup xs i (by omega)
    have le := nD_le xs i
    have e : xs.getD i Str.empty = xs[i] := by simp [List.getD, lt]
    have t : xs.take (i + 1) = xs.take i ++ [xs[i]] := by rw [List.take_add_one, List.getElem?_eq_getElem lt]; rfl
    unfold nD
    rw [e, t, List.nodup_append]
    by_cases m : xs[i] ∈ xs.take i
    · have : (xs.take i).any (· == xs[i]) = true := List.any_eq_true.mpr ⟨_, m, by simp⟩
      rw [if_pos this]
      refine ⟨fun z => by omega, fun z => absurd rfl (z.2.2 _ m _ (by simp))⟩
    · have : ¬ (xs.take i).any (· == xs[i]) = true := fun z => by
        obtain ⟨y, hy, ey⟩ := List.any_eq_true.mp z
        rw [eq_of_beq ey] at hy
        exact m hy
      rw [if_neg this]
      refine ⟨fun z => ⟨ih.mp (by omega), by simp, fun a ha b hb q => ?_⟩, fun z => by have := ih.mpr z.1; omega⟩
      rw [List.mem_singleton] at hb
      subst hb
      subst q
      exact m ha
theorem nD_all (xs : List Str) : decide (((nD xs xs.length : Nat) : Int) = xs.length) = decide xs.Nodup := by
  have h := nD_nodup xs xs.length (Nat.le_refl _)
  rw [List.take_length] at h
  exact decide_eq_decide.mpr ⟨fun z => h.mp (by omega), fun z => by have := h.mpr z; omega⟩
end Dm

set_option Elab.async false
set_option linter.all false
set_option maxRecDepth 100000
set_option maxHeartbeats 4000000
/-! The data machine: chains, truths, membership, dicts, deep ==, while, zip, stars. -/
namespace Dm
open PySem PySem.Spec PyProof.Rows L2
section
variable {X : Cx} {a b c e : Expr} {es : List Expr} {wa wb wc we : DE} {wr ws : DA} {wt wu : DT} {pos : Pos}

/-! ### chains, and, or, not as values -/
def dChain (r r' : R2D) (wa wb wc : DE) : DE := fun δ O S => wa δ O fun x O1 => wb δ O1 fun y O2 => r x y O2 fun z O3 => ∃ k, z = .bl k ∧ if k = true then wc δ O3 fun w O4 => r' y w O4 S else S (.bl false) O3
theorem chain_sound {K : PySem.W.Frag} {r r' : R2} {rd rd' : R2D} {ta tb tc : TE} (h : SR2 K r rd) (h' : SR2 K r' rd') (ha : SE K ta wa) (hb : SE K tb wb) (hc : SE K tc wc) : SE K (tChain r r' ta tb tc) (dChain rd rd' wa wb wc) := fun F H θ O σ δ S j s q Q k => by
  refine ha F H θ O σ δ _ j s q _ fun v x F1 H1 θ1 O1 g1 j1 r1 q1 => ?_
  refine hb F1 H1 θ1 O1 σ δ _ j1 (s.mono g1) q1 _ fun u y F2 H2 θ2 O2 g2 j2 r2 q2 => ?_
  refine h F2 H2 θ2 O2 x y v u _ j2 (r1.mono g2) r2 q2 _ fun z w F3 H3 θ3 O3 g3 j3 r3 q3 => ?_
  obtain ⟨t, rfl, q3⟩ := q3
  have g := (g1.trans g2).trans g3
  refine ⟨t, r3.bl_inv, ?_⟩
  cases t with
  | false => exact k _ _ F3 H3 θ3 O3 g j3 (.bl false) q3
  | true =>
    refine hc F3 H3 θ3 O3 σ δ _ j3 (s.mono g) q3 _ fun w2 y2 F4 H4 θ4 O4 g4 j4 r4 q4 => ?_
    exact h' F4 H4 θ4 O4 y y2 u w2 S j4 ((r2.mono g3).mono g4) r4 q4 Q fun z w F5 H5 θ5 O5 g5 => k z w F5 H5 θ5 O5 ((g.trans g4).trans g5)
theorem ed_chain {op op' : CmpOp} {r r' : R2} {rd rd' : R2D} (ho : OpR X (compareOp op) r) (ho' : OpR X (compareOp op') r') (h : SR2 X.K r rd) (h' : SR2 X.K r' rd') (ha : ED X a wa) (hb : ED X b wb) (hc : ED X c wc) (hm : lastMarks [op, op'] [b, c] = false := by with_unfolding_all rfl) :
    ED X (.Compare a [op, op'] [b, c] pos) (dChain rd rd' wa wb wc) := by
  obtain ⟨ta, pa, sa⟩ := ha.ex
  obtain ⟨tb, pb, sb⟩ := hb.ex
  obtain ⟨tc, pc, sc⟩ := hc.ex
  exact ⟨_, pe_chain ho ho' pa pb pc hm, chain_sound h h' sa sb sc⟩
abbrev cle : R2D := rdI0 fun i j => .bl (decide (i ≤ j))
abbrev clt : R2D := rdI0 fun i j => .bl (decide (i < j))
def dAndV (wa wb : DE) : DE := fun δ O S => wa δ O fun x O1 => ∃ t, x = .bl t ∧ if t = true then wb δ O1 S else S (.bl false) O1
def dOrV (wa wb : DE) : DE := fun δ O S => wa δ O fun x O1 => ∃ t, x = .bl t ∧ if t = true then S (.bl true) O1 else wb δ O1 S
def dNotV (wa : DE) : DE := fun δ O S => wa δ O fun x O1 => ∃ t, x = .bl t ∧ S (.bl (!t)) O1
theorem ed_one {op} (h : ED X a wa) : ED X (.BoolOp op [a] pos) wa := let ⟨t, p, s⟩ := h.ex; ⟨t, pe_one p, s⟩
theorem ed_and {rest : List Expr} (h : ED X a wa) (hr : ED X (.BoolOp .And (b :: rest) pos) wb) : ED X (.BoolOp .And (a :: b :: rest) pos) (dAndV wa wb) := by
  obtain ⟨t, p, s⟩ := h.ex
  obtain ⟨t2, p2, s2⟩ := hr.ex
  refine ⟨_, pe_and p p2, fun F H θ O σ δ S j r q Q k => ?_⟩
  refine s F H θ O σ δ _ j r q _ fun v x F1 H1 θ1 O1 g1 j1 r1 q1 => ?_
  obtain ⟨t, rfl, q1⟩ := q1
  refine ⟨t, r1.bl_inv, ?_⟩
  cases t with
  | true => exact s2 F1 H1 θ1 O1 σ δ S j1 (r.mono g1) q1 Q fun z w F2 H2 θ2 O2 g2 => k z w F2 H2 θ2 O2 (g1.trans g2)
  | false => exact k _ _ F1 H1 θ1 O1 g1 j1 (.bl false) q1
theorem ed_or {rest : List Expr} (h : ED X a wa) (hr : ED X (.BoolOp .Or (b :: rest) pos) wb) : ED X (.BoolOp .Or (a :: b :: rest) pos) (dOrV wa wb) := by
  obtain ⟨t, p, s⟩ := h.ex
  obtain ⟨t2, p2, s2⟩ := hr.ex
  refine ⟨_, pe_or p p2, fun F H θ O σ δ S j r q Q k => ?_⟩
  refine s F H θ O σ δ _ j r q _ fun v x F1 H1 θ1 O1 g1 j1 r1 q1 => ?_
  obtain ⟨t, rfl, q1⟩ := q1
  refine ⟨t, r1.bl_inv, ?_⟩
  cases t with
  | false => exact s2 F1 H1 θ1 O1 σ δ S j1 (r.mono g1) q1 Q fun z w F2 H2 θ2 O2 g2 => k z w F2 H2 θ2 O2 (g1.trans g2)
  | true => exact k _ _ F1 H1 θ1 O1 g1 j1 (.bl true) q1
theorem ed_not (h : ED X a wa) : ED X (.UnaryOp .Not a pos) (dNotV wa) := by
  obtain ⟨t, p, s⟩ := h.ex
  refine ⟨_, pe_not p, fun F H θ O σ δ S j r q Q k => ?_⟩
  refine s F H θ O σ δ _ j r q _ fun v x F1 H1 θ1 O1 g1 j1 r1 q1 => ?_
  obtain ⟨t, rfl, q1⟩ := q1
  exact ⟨t, r1.bl_inv, k _ _ F1 H1 θ1 O1 g1 j1 (.bl _) q1⟩
/-- a built-in class by its name; a constant of the module -/
theorem ed_bltn {x : Str} {T : String} (hg : Gl X x) (hm : X.mg x = none) (hv : bootBuiltins x = some (.type T)) (hn : x ≠ "__name__" := by decide) (hd : (x == ("__debug__" : Str)) = false := by decide) : ED X (.Name x pos) (dC (.ty T)) :=
  ⟨_, pe_bltn (v := .ty T) hg hm hv rfl hn hd, SE.pure fun _ _ => .ty T⟩
theorem ed_gint {x : Str} {i : Int} {t : Tok} (hg : Gl X x) (hm : X.mg x = some (.int i t)) (hd : (x == ("__debug__" : Str)) = false := by decide) : ED X (.Name x pos) (dC (.int i)) := ⟨_, pe_glob (v := .int i) hg hm ⟨t, rfl⟩ hd, SE.pure fun _ _ => .int i⟩
theorem ed_gstr {x : Str} {y : Str} {t : Tok} (hg : Gl X x) (hm : X.mg x = some (.str y t)) (hd : (x == ("__debug__" : Str)) = false := by decide) : ED X (.Name x pos) (dC (.str y)) := ⟨_, pe_glob (v := .str y) hg hm ⟨t, rfl⟩ hd, SE.pure fun _ _ => .str y⟩

/-! ### isinstance -/
def tyW (x : W) (O : Sto) : Option String := match x with
  | .non => some "NoneType" | .bl _ => some "bool" | .int _ => some "int" | .str _ => some "str" | .tup _ => some "tuple"
  | .cell k => (match O[k]? with | some (.lst _) => some "list" | some (.rol _) => some "list" | some (.dct _) => some "dict" | _ => none)
  | _ => none
def rdIsi : RCD := fun ws O S => ∃ x T t b, ws = [x, .ty T] ∧ tyW x O = some t ∧ kitB t T = some b ∧ S (.bl b) O
theorem tyW_ok {K : PySem.W.Frag} {F H : Hp} {θ : List Addr} {O : Sto} {v : V} {x : W} {t : String} (j : Jn K F H θ O) (r : RW K F θ v x) (h : tyW x O = some t) : TyX K H v (.type t) := by
  cases x with
  | non => cases h; rw [r.non_inv]; exact .base .non
  | bl z => cases h; rw [r.bl_inv]; exact .base (.bl z)
  | int i => cases h; rw [r.int_inv]; exact .base (.int i)
  | str z => cases h; rw [r.str_inv]; exact .base (.str z)
  | tup us =>
    cases h
    obtain ⟨a, vs, rfl, hq, _⟩ := r.tup_inv
    rcases hq with (hq | ⟨o, hq⟩) | ⟨o, its, n, hk, hc, _⟩
    · exact .base (.tup (j.sub a _ hq))
    · exact .fTuple (j.sub a _ hq)
    · exact .kTuple hk hc
  | cell k =>
    obtain ⟨a, rfl, ha⟩ := r.cell_inv
    unfold tyW at h
    cases e : O[k]? with
    | none => simp [e] at h
    | some c =>
      simp only [e] at h
      cases c with
      | dead => cases h
      | lst us => cases h; obtain ⟨_, vs, hv, _⟩ := j.lst ha e; exact .base (.lst hv)
      | rol us => cases h; obtain ⟨_, o, vs, hv, _⟩ := j.rol ha e; exact .base (.frz hv)
      | dct kvs => cases h; obtain ⟨_, vs, hv, _⟩ := (show F a = none ∧ ∃ vs, H a = some (.dK vs) ∧ KvR K F θ vs kvs from j.ok k a _ ha e); exact .base (.dK hv)
      | exc C => cases h
      | exr C i => cases h
      | exf fs => cases h
      | xd fs => cases h
  | ty n => cases h
  | ref a => cases h
  | xr a d dk => cases h
theorem src_isi {K : PySem.W.Frag} : SRC K (rIsi K) rdIsi := by
  intro F H θ O vs ws S j r q Q k
  obtain ⟨x, T, t, b, rfl, ht, hb, q⟩ := q
  obtain ⟨v, u, rfl, rv, ru⟩ := r.two_inv
  rw [ru.ty_inv]
  refine ⟨v, .ty T, .type t, .type T, b, rfl, ?_, tyW_ok j rv ht, kit_ty hb, k _ _ F H θ O Gr.refl j (.bl b) q⟩
  constructor

/-! ### in -/
def flatW : W → Bool
  | .non => true | .bl _ => true | .int _ => true | .str _ => true
  | _ => false
def eqW : W → W → Bool
  | .non, .non => true
  | .bl a, .bl b => a == b
  | .bl a, .int b => (if a then 1 else 0) == b
  | .int a, .bl b => a == (if b then 1 else 0)
  | .int a, .int b => a == b
  | .str a, .str b => a == b
  | _, _ => false
def inW (x : W) (xs : List W) : Bool := xs.any fun y => eqW y x
theorem flat_rel {K : PySem.W.Frag} {F : Hp} {θ : List Addr} {v : V} {x : W} (r : RW K F θ v x) (h : flatW x = true) : flatV v = true := by cases r <;> first | rfl | exact absurd h Bool.false_ne_true
theorem flats_rel {K : PySem.W.Frag} {F : Hp} {θ : List Addr} : ∀ {vs : List V} {xs : List W}, RWs K F θ vs xs → xs.all flatW = true → vs.all flatV = true
  | _, _, .nil, _ => rfl
  | _, _, .cons r t, h => by
    rw [List.all_cons, Bool.and_eq_true] at h ⊢
    exact ⟨flat_rel r h.1, flats_rel t h.2⟩
theorem eq_rel {K : PySem.W.Frag} {F : Hp} {θ : List Addr} {v u : V} {x y : W} (r : RW K F θ v x) (q : RW K F θ u y) (h : flatW x = true) : eqV v u = eqW x y := by
  cases r <;> cases q <;> first | rfl | exact absurd h Bool.false_ne_true
theorem in_rel {K : PySem.W.Frag} {F : Hp} {θ : List Addr} {v : V} {x : W} (r : RW K F θ v x) : ∀ {vs : List V} {xs : List W}, RWs K F θ vs xs → xs.all flatW = true → inV v vs = inW x xs
  | _, _, .nil, _ => rfl
  | _, _, .cons q t, h => by
    rw [List.all_cons, Bool.and_eq_true] at h
    have ih := in_rel r t h.2
    unfold inV inW at ih ⊢
    rw [List.any_cons, List.any_cons, eq_rel q r h.1, ih]
def rdInQ : R2D := fun x y O S => ∃ xs, (y = .tup xs ∨ ∃ k, y = .cell k ∧ LstC O k xs) ∧ flatW x = true ∧ xs.all flatW = true ∧ S (.bl (inW x xs)) O
def rdNinQ : R2D := fun x y O S => ∃ xs, (y = .tup xs ∨ ∃ k, y = .cell k ∧ LstC O k xs) ∧ flatW x = true ∧ xs.all flatW = true ∧ S (.bl (!inW x xs)) O
theorem seq_rel {K : PySem.W.Frag} {F H : Hp} {θ : List Addr} {O : Sto} {u : V} {y : W} {xs : List W} (j : Jn K F H θ O) (r : RW K F θ u y) (h : y = .tup xs ∨ ∃ k, y = .cell k ∧ LstC O k xs) : ∃ p vs, u = .ref p ∧ (SqL K H p vs ∨ SqT K H p vs) ∧ RWs K F θ vs xs := by
  rcases h with rfl | ⟨k, rfl, hc⟩
  · obtain ⟨p, vs, rfl, hq, rr⟩ := r.tup_inv
    exact ⟨p, vs, rfl, .inr (sqT_sub j hq), rr⟩
  · obtain ⟨p, rfl, hp⟩ := r.cell_inv
    obtain ⟨vs, hl, rr⟩ := j.lstC hp hc
    exact ⟨p, vs, rfl, .inl hl, rr⟩
theorem sr_inQ {K : PySem.W.Frag} : SR2 K (rIn K false) rdInQ := by
  intro F H θ O x y v u S j rx ry q Q k
  obtain ⟨xs, h, h1, h2, q⟩ := q
  obtain ⟨p, vs, rfl, hq, rr⟩ := seq_rel j ry h
  exact ⟨p, vs, rfl, hq, flat_rel rx h1, flats_rel rr h2, by rw [if_neg Bool.false_ne_true, in_rel rx rr h2]; exact k _ _ F H θ O Gr.refl j (.bl _) q⟩
theorem sr_ninQ {K : PySem.W.Frag} : SR2 K (rIn K true) rdNinQ := by
  intro F H θ O x y v u S j rx ry q Q k
  obtain ⟨xs, h, h1, h2, q⟩ := q
  obtain ⟨p, vs, rfl, hq, rr⟩ := seq_rel j ry h
  exact ⟨p, vs, rfl, hq, flat_rel rx h1, flats_rel rr h2, by rw [if_pos rfl, in_rel rx rr h2]; exact k _ _ F H θ O Gr.refl j (.bl _) q⟩
/-- one sign in a text -/
def rdInS : R2D := fun x y O S => ∃ (c : Nat) (z : Str), x = .str ⟨#[c]⟩ ∧ y = .str z ∧ S (.bl (decide (c ∈ z.cps.toList))) O
theorem sr_inS {K : PySem.W.Frag} : SR2 K (fun x y H Q => ∃ (c : Nat) (z : Str), x = .str ⟨#[c]⟩ ∧ y = .str z ∧ Q (.bl (decide (c ∈ z.cps.toList))) H) rdInS := by
  intro F H θ O x y v u S j rx ry q Q k
  obtain ⟨c, z, rfl, rfl, q⟩ := q
  exact ⟨c, z, rx.str_inv, ry.str_inv, k _ _ F H θ O Gr.refl j (.bl _) q⟩
/-- a key of a dict -/
def keyW : W → Option Key
  | .int i => some (.inl i)
  | .str x => some (.inr x)
  | _ => none
def valW (kvs : List (Key × W)) (k : Key) : Option W := (kvs.find? fun kv => decide (kv.1 = k)).map (·.2)
def putW (kvs : List (Key × W)) (k : Key) (v : W) : List (Key × W) := if (kvs.any fun kv => decide (kv.1 = k)) = true then kvs.map (fun kv => if kv.1 = k then (kv.1, v) else kv) else kvs ++ [(k, v)]
theorem key_rel {K : PySem.W.Frag} {F : Hp} {θ : List Addr} {v : V} {x : W} {k : Key} (r : RW K F θ v x) (h : keyW x = some k) : v = kV k := by
  cases x <;> first | (cases h; first | rw [r.int_inv]; rfl | rw [r.str_inv]; rfl) | cases h
theorem val_rel {K : PySem.W.Frag} {F : Hp} {θ : List Addr} (k : Key) : ∀ {vs : List (Key × V)} {kvs : List (Key × W)}, KvR K F θ vs kvs → (valV vs k = none ∧ valW kvs k = none) ∨ ∃ v w, valV vs k = some v ∧ valW kvs k = some w ∧ RW K F θ v w
  | _, _, .nil => .inl ⟨rfl, rfl⟩
  | (k1, v1) :: vs, (k2, w2) :: kvs, .cons r t => by
    obtain ⟨e, rv⟩ := r
    have e' : k1 = k2 := e
    subst e'
    unfold valV valW
    by_cases h : k1 = k
    · refine .inr ⟨v1, w2, ?_, ?_, rv⟩ <;> simp [List.find?, h]
    · have := val_rel k t
      unfold valV valW at this
      simp only [List.find?, decide_eq_false h]
      exact this
theorem anyk_rel {K : PySem.W.Frag} {F : Hp} {θ : List Addr} (k : Key) : ∀ {vs : List (Key × V)} {kvs : List (Key × W)}, KvR K F θ vs kvs → (vs.any fun kv => decide (kv.1 = k)) = kvs.any fun kv => decide (kv.1 = k)
  | _, _, .nil => rfl
  | _, _, .cons r t => by rw [List.any_cons, List.any_cons, r.1, anyk_rel k t]
theorem mapk_rel {K : PySem.W.Frag} {F : Hp} {θ : List Addr} (k : Key) {v : V} {w : W} (rv : RW K F θ v w) : ∀ {vs : List (Key × V)} {kvs : List (Key × W)}, KvR K F θ vs kvs → KvR K F θ (vs.map fun kv => if kv.1 = k then (kv.1, v) else kv) (kvs.map fun kv => if kv.1 = k then (kv.1, w) else kv)
  | _, _, .nil => .nil
  | (k1, v1) :: vs, (k2, w2) :: kvs, .cons r t => by
    obtain ⟨e, r2⟩ := r
    have e' : k1 = k2 := e
    subst e'
    refine .cons ?_ (mapk_rel k rv t)
    by_cases h : k1 = k
    · dsimp only
      rw [if_pos h, if_pos h]
      exact ⟨rfl, rv⟩
    · dsimp only
      rw [if_neg h, if_neg h]
      exact ⟨rfl, r2⟩
theorem appk_rel {K : PySem.W.Frag} {F : Hp} {θ : List Addr} {p : Key × V} {q : Key × W} (r : p.1 = q.1 ∧ RW K F θ p.2 q.2) : ∀ {vs : List (Key × V)} {kvs : List (Key × W)}, KvR K F θ vs kvs → KvR K F θ (vs ++ [p]) (kvs ++ [q])
  | _, _, .nil => .cons r .nil
  | _, _, .cons z t => .cons z (appk_rel r t)
theorem put_rel {K : PySem.W.Frag} {F : Hp} {θ : List Addr} (k : Key) {v : V} {w : W} (rv : RW K F θ v w) {vs : List (Key × V)} {kvs : List (Key × W)} (h : KvR K F θ vs kvs) : KvR K F θ (putK vs k v) (putW kvs k w) := by
  unfold putK putW
  rw [anyk_rel k h]
  split
  · exact mapk_rel k rv h
  · exact appk_rel ⟨rfl, rv⟩ h
theorem kv_len {K : PySem.W.Frag} {F : Hp} {θ : List Addr} : ∀ {vs : List (Key × V)} {kvs : List (Key × W)}, KvR K F θ vs kvs → vs.length = kvs.length
  | _, _, .nil => rfl
  | _, _, .cons _ t => by rw [List.length_cons, List.length_cons, kv_len t]
theorem Jn.dct {K : PySem.W.Frag} {F H : Hp} {θ : List Addr} {O : Sto} (j : Jn K F H θ O) {k : Nat} {a : Addr} {kvs : List (Key × W)} (e : θ[k]? = some a) (c : O[k]? = some (.dct kvs)) : F a = none ∧ ∃ vs, H a = some (.dK vs) ∧ KvR K F θ vs kvs := j.ok k a _ e c
theorem Jn.putD {K : PySem.W.Frag} {F H : Hp} {θ : List Addr} {O : Sto} (j : Jn K F H θ O) {k : Nat} {a : Addr} {vs : List (Key × V)} {kvs : List (Key × W)} (e : θ[k]? = some a) (f : F a = none) (r : KvR K F θ vs kvs) : Jn K F (L2.upd H a (.dK vs)) θ (O.set k (.dct kvs)) :=
  j.put e f ⟨f, vs, upd_same, r⟩

/-! ### dicts -/
variable {X : Cx} {a b c e : Expr} {es : List Expr} {wa wb wc we : DE} {wr ws : DA} {wt wu : DT} {pos : Pos}
def rInD (neg : Bool) : R2 := fun y x H Q => ∃ a o, x = .ref a ∧ DGet H a y o ∧ Q (.bl (if neg then !o.isSome else o.isSome)) H
theorem op_inD (hu : X.A.units + 1 < cLine) : OpR X (compareOp .In) (rInD false) := by
  intro pins s σ H y x v u Q I ry rx h
  obtain ⟨a, o, rfl, g, q⟩ := h
  obtain rfl : u = Value.ref a := rx
  exact d_in hu I g ry fun s3 I3 => ⟨.bl o.isSome, H, I3, rfl, q⟩
theorem op_ninD (hu : X.A.units + 1 < cLine) : OpR X (compareOp .NotIn) (rInD true) := by
  intro pins s σ H y x v u Q I ry rx h
  obtain ⟨a, o, rfl, g, q⟩ := h
  obtain rfl : u = Value.ref a := rx
  exact d_notIn hu I g ry fun s3 I3 => ⟨.bl (!o.isSome), H, I3, rfl, q⟩
theorem OpR.or {f : Value → Value → Sem Value} {r r' : R2} (h : OpR X f r) (h' : OpR X f r') : OpR X f (fun x y H Q => r x y H Q ∨ r' x y H Q) := by
  intro pins s σ H y x v u Q I ry rx q
  rcases q with q | q
  · exact h pins s σ H y x v u Q I ry rx q
  · exact h' pins s σ H y x v u Q I ry rx q
def rdInD : R2D := fun x y O S => ∃ k kvs key, y = .cell k ∧ O[k]? = some (.dct kvs) ∧ keyW x = some key ∧ S (.bl (valW kvs key).isSome) O
def rdNinD : R2D := fun x y O S => ∃ k kvs key, y = .cell k ∧ O[k]? = some (.dct kvs) ∧ keyW x = some key ∧ S (.bl (!(valW kvs key).isSome)) O
theorem sr_inD {K : PySem.W.Frag} : SR2 K (rInD false) rdInD := by
  intro F H θ O x y v u S j rx ry q Q k
  obtain ⟨c, kvs, key, rfl, hc, hk, q⟩ := q
  obtain ⟨a, rfl, ha⟩ := ry.cell_inv
  obtain ⟨f, vs, hv, rr⟩ := j.dct ha hc
  refine ⟨a, valV vs key, rfl, by rw [key_rel rx hk]; exact DGet.k hv, ?_⟩
  have e : (valV vs key).isSome = (valW kvs key).isSome := by
    rcases val_rel key rr with ⟨e1, e2⟩ | ⟨_, _, e1, e2, _⟩ <;> rw [e1, e2] <;> rfl
  rw [if_neg Bool.false_ne_true, e]
  exact k _ _ F H θ O Gr.refl j (.bl _) q
theorem sr_ninD {K : PySem.W.Frag} : SR2 K (rInD true) rdNinD := by
  intro F H θ O x y v u S j rx ry q Q k
  obtain ⟨c, kvs, key, rfl, hc, hk, q⟩ := q
  obtain ⟨a, rfl, ha⟩ := ry.cell_inv
  obtain ⟨f, vs, hv, rr⟩ := j.dct ha hc
  refine ⟨a, valV vs key, rfl, by rw [key_rel rx hk]; exact DGet.k hv, ?_⟩
  have e : (valV vs key).isSome = (valW kvs key).isSome := by
    rcases val_rel key rr with ⟨e1, e2⟩ | ⟨_, _, e1, e2, _⟩ <;> rw [e1, e2] <;> rfl
  rw [if_pos rfl, e]
  exact k _ _ F H θ O Gr.refl j (.bl _) q
theorem behind (b : Expr) {op : CmpOp} (h : behindInMarks op b = false) : behindInMarks op b = false := h
theorem ed_inQ (ha : ED X a wa) (hb : ED X b wb) (hm : behindInMarks .In b = false := by with_unfolding_all rfl) : ED X (.Compare a [.In] [b] pos) (dOp rdInQ wa wb) := ed_cmp op_in_seq sr_inQ ha hb hm
theorem ed_ninQ (ha : ED X a wa) (hb : ED X b wb) (hm : behindInMarks .NotIn b = false := by with_unfolding_all rfl) : ED X (.Compare a [.NotIn] [b] pos) (dOp rdNinQ wa wb) := ed_cmp op_notIn_seq sr_ninQ ha hb hm
theorem et_inQ (ha : ED X a wa) (hb : ED X b wb) (hm : behindInMarks .In b = false := by with_unfolding_all rfl) : EDT X (.Compare a [.In] [b] pos) (dTest (dOp rdInQ wa wb)) := et_cmp op_in_seq sr_inQ ha hb hm
theorem et_ninQ (ha : ED X a wa) (hb : ED X b wb) (hm : behindInMarks .NotIn b = false := by with_unfolding_all rfl) : EDT X (.Compare a [.NotIn] [b] pos) (dTest (dOp rdNinQ wa wb)) := et_cmp op_notIn_seq sr_ninQ ha hb hm
theorem ed_inS (ha : ED X a wa) (hb : ED X b wb) (hm : behindInMarks .In b = false := by with_unfolding_all rfl) : ED X (.Compare a [.In] [b] pos) (dOp rdInS wa wb) := ed_cmp op_in_sign sr_inS ha hb hm
theorem et_inS (ha : ED X a wa) (hb : ED X b wb) (hm : behindInMarks .In b = false := by with_unfolding_all rfl) : EDT X (.Compare a [.In] [b] pos) (dTest (dOp rdInS wa wb)) := et_cmp op_in_sign sr_inS ha hb hm
theorem ed_inD (hu : X.A.units + 1 < cLine) (ha : ED X a wa) (hb : ED X b wb) (hm : behindInMarks .In b = false := by with_unfolding_all rfl) : ED X (.Compare a [.In] [b] pos) (dOp rdInD wa wb) := ed_cmp (op_inD hu) sr_inD ha hb hm
theorem et_inD (hu : X.A.units + 1 < cLine) (ha : ED X a wa) (hb : ED X b wb) (hm : behindInMarks .In b = false := by with_unfolding_all rfl) : EDT X (.Compare a [.In] [b] pos) (dTest (dOp rdInD wa wb)) := et_cmp (op_inD hu) sr_inD ha hb hm
theorem et_ninD (hu : X.A.units + 1 < cLine) (ha : ED X a wa) (hb : ED X b wb) (hm : behindInMarks .NotIn b = false := by with_unfolding_all rfl) : EDT X (.Compare a [.NotIn] [b] pos) (dTest (dOp rdNinD wa wb)) := et_cmp (op_ninD hu) sr_ninD ha hb hm
/-- in, of a sequence or a dict -/
abbrev rdInU : R2D := fun x y O S => rdInQ x y O S ∨ rdInD x y O S
theorem ed_inU (hu : X.A.units + 1 < cLine) (ha : ED X a wa) (hb : ED X b wb) (hm : behindInMarks .In b = false := by with_unfolding_all rfl) : ED X (.Compare a [.In] [b] pos) (dOp rdInU wa wb) := ed_cmp (op_in_seq.or (op_inD hu)) (sr_inQ.or sr_inD) ha hb hm
/-- d[k] -/
def rdIxD : R2D := fun x y O S => ∃ k kvs key w, x = .cell k ∧ O[k]? = some (.dct kvs) ∧ keyW y = some key ∧ valW kvs key = some w ∧ S w O
theorem ed_ixD (hu : X.A.units + 1 < cLine) (ha : ED X a wa) (hb : ED X b wb) (hs : NoSl b := by exact fun _ _ => rfl) : ED X (.Subscript a b pos) (dOp rdIxD wa wb) := by
  obtain ⟨ta, pa, sa⟩ := ha.ex
  obtain ⟨tb, pb, sb⟩ := hb.ex
  refine ⟨_, pe_dget hu pa pb hs, fun F H θ O σ δ S j s q Q k => ?_⟩
  refine sa F H θ O σ δ _ j s q _ fun v x F1 H1 θ1 O1 g1 j1 r1 q1 => ?_
  refine sb F1 H1 θ1 O1 σ δ _ j1 (s.mono g1) q1 _ fun u y F2 H2 θ2 O2 g2 j2 r2 q2 => ?_
  obtain ⟨c, kvs, key, w, rfl, hc, hk, hw, q2⟩ := q2
  obtain ⟨p, rfl, hp⟩ := r1.cell_inv
  obtain ⟨f, vs, hv, rr⟩ := j2.dct (g2.at hp) hc
  rcases val_rel key rr with ⟨_, e2⟩ | ⟨v, w', e1, e2, rw'⟩
  · rw [e2] at hw
    cases hw
  · rw [e2] at hw
    cases hw
    exact ⟨p, v, rfl, by rw [key_rel r2 hk, ← e1]; exact DGet.k hv, k v w F2 H2 θ2 O2 (g1.trans g2) j2 rw' q2⟩
/-- d[k] = v -/
def dDput (wd wk wv : DE) : DTS := fun D δ O => wv δ O fun v O1 => wd δ O1 fun d O2 => wk δ O2 fun y O3 => ∃ k kvs key, d = .cell k ∧ O3[k]? = some (.dct kvs) ∧ keyW y = some key ∧ kvs.length < sizeLine ∧ D.nx δ (O3.set k (.dct (putW kvs key v)))
theorem es_dput {pos' : Pos} (hu : X.A.units + 1 < cLine) (ho : ED X a wa) (hi : ED X b wb) (hv : ED X e we) (hs : swapsWith e (some (.Subscript a b pos')) pos.line X.env = pure false := by rfl) : EDS X (.Assign [.Subscript a b pos'] e pos) (dDput wa wb we) := by
  obtain ⟨ta, pa, sa⟩ := ho.ex
  obtain ⟨tb, pb, sb⟩ := hi.ex
  obtain ⟨te, pe, se⟩ := hv.ex
  refine ⟨_, ps_dput hu pa pb pe hs, fun F H θ O σ δ D D' j s q l => ?_⟩
  refine se F H θ O σ δ _ j s q _ fun vv w F1 H1 θ1 O1 g1 j1 r1 q1 => ?_
  refine sa F1 H1 θ1 O1 σ δ _ j1 (s.mono g1) q1 _ fun x d F2 H2 θ2 O2 g2 j2 r2 q2 => ?_
  refine sb F2 H2 θ2 O2 σ δ _ j2 (s.mono (g1.trans g2)) q2 _ fun u y F3 H3 θ3 O3 g3 j3 r3 q3 => ?_
  obtain ⟨c, kvs, key, rfl, hc, hk, hz, q3⟩ := q3
  obtain ⟨p, rfl, hp⟩ := r2.cell_inv
  obtain ⟨f, vs, hv, rr⟩ := j3.dct (g3.at hp) hc
  have g := (g1.trans g2).trans g3
  exact ⟨p, _, rfl, by rw [key_rel r3 hk]; exact DPut.k hv (by rw [kv_len rr]; exact hz), l.nx F3 _ θ3 _ σ δ g (j3.putD (g3.at hp) f (put_rel key (r1.mono (g2.trans g3)) rr)) (s.mono g) q3⟩
def dDnew : DE := fun _ O S => S (.cell O.length) (O ++ [.dct []])
theorem ed_dnew : ED X (.Dict [] [] pos) dDnew := by
  refine ⟨_, pe_dnewK, fun F H θ O σ δ S j s q Q k p hp => ?_⟩
  exact k _ _ _ _ _ _ Gr.push (j.newC (c := .dct []) hp ⟨j.freeF hp, [], upd_same, .nil⟩) (.cell (by rw [← j.len]; simp)) q
def rdLenD : RCD := fun ws O S => ∃ k kvs, ws = [.cell k] ∧ O[k]? = some (.dct kvs) ∧ S (.int kvs.length) O
theorem src_lenD {K : PySem.W.Frag} : SRC K (fun xs H Q => ∃ a kvs, xs = [V.ref a] ∧ H a = some (.dK kvs) ∧ Q (.int kvs.length) H) rdLenD := by
  intro F H θ O vs ws S j r q Q k
  obtain ⟨c, kvs, rfl, hc, q⟩ := q
  obtain ⟨v, rfl, rv⟩ := r.one_inv
  obtain ⟨a, rfl, ha⟩ := rv.cell_inv
  obtain ⟨f, us, hu, rr⟩ := j.dct ha hc
  exact ⟨a, us, rfl, hu, by rw [kv_len rr]; exact k _ _ F H θ O Gr.refl j (.int _) q⟩

/-! ### all, sums of truths; stars in displays -/
def rdAll : RCD := fun ws O S => ∃ (k : Nat) (bs : List Bool), ws = [.cell k] ∧ LstC O k (bs.map W.bl) ∧ S (.bl (bs.all id)) O
theorem bls_rel {K : PySem.W.Frag} {F : Hp} {θ : List Addr} : ∀ {vs : List V} {ns : List Bool}, RWs K F θ vs (ns.map W.bl) → vs = ns.map V.bl
  | _, [], r => by cases r; rfl
  | _, n :: ns, r => by
    cases r with
    | cons a b => rw [a.bl_inv, bls_rel b]; rfl
theorem src_all {K : PySem.W.Frag} : SRC K (rAll K) rdAll := by
  intro F H θ O vs ws S j r q Q k
  obtain ⟨c, bs, rfl, hc, q⟩ := q
  obtain ⟨v, rfl, rv⟩ := r.one_inv
  obtain ⟨a, rfl, ha⟩ := rv.cell_inv
  obtain ⟨xs, hl, rr⟩ := j.lstC ha hc
  exact ⟨a, bs, rfl, by rw [← bls_rel rr]; exact hl, k _ _ F H θ O Gr.refl j (.bl _) q⟩
def dStar (we : DE) (wr : DA) : DA := fun δ O S => we δ O fun x O1 => ∃ us, (x = .tup us ∨ ∃ k, x = .cell k ∧ LstC O1 k us) ∧ wr δ O1 fun ws O2 => S (us ++ ws) O2
theorem ea_star {p : Pos} (h : ED X e we) (hr : EDA X es wr) (hs : starEach (.Starred e p :: es) X.env = (true, eval e X.env) :: starEach es X.env := by rfl) : EDA X (.Starred e p :: es) (dStar we wr) := by
  obtain ⟨t, pe, s⟩ := h.ex
  obtain ⟨t2, p2, s2⟩ := hr.ex
  refine ⟨_, StX.pa_star pe p2 hs, fun F H θ O σ δ S j r q Q k => ?_⟩
  refine s F H θ O σ δ _ j r q _ fun v x F1 H1 θ1 O1 g1 j1 r1 q1 => ?_
  obtain ⟨us, hx, q1⟩ := q1
  obtain ⟨a, vs, rfl, hq, rr⟩ := seq_rel j1 r1 hx
  refine ⟨a, vs, rfl, hq.symm, ?_⟩
  exact s2 F1 H1 θ1 O1 σ δ _ j1 (r.mono g1) q1 _ fun zs ws F2 H2 θ2 O2 g2 j2 r2 q2 => k _ _ F2 H2 θ2 O2 (g1.trans g2) j2 ((rr.mono g2).append r2) q2

/-! ### while, op=, truth -/
def dWhile (wt : DT) (wb : DTS) : DTS := fun D δ O => ∃ Pv : Nat → DS → Sto → Prop, (∃ m, Pv m δ O) ∧ ∀ m δ O, Pv m δ O → wt δ O fun b O1 => if b = true then ∃ N : DS → Sto → Prop, (∀ δ' O', N δ' O' → ∃ m', m' < m ∧ Pv m' δ' O') ∧ wb { D with nx := N, ct := N, bk := D.nx } δ O1 else D.nx δ O1
theorem es_while {body : List Stmt} {wb' : DTS} (hp : PassesOwn (model X.prog X.w) X.A X.env X.xe) (hc : EDT X c wt) (hb : EDB X body wb') : EDS X (.While c body [] pos) (dWhile wt wb') := by
  obtain ⟨t0, p0, s0⟩ := hc.ex
  obtain ⟨t1, p1, s1⟩ := hb.ex
  refine ⟨_, ps_while hp p0 p1, fun F H θ O σ δ D D' j s q l => ?_⟩
  obtain ⟨Pv, ⟨m0, h0⟩, turn⟩ := q
  refine ⟨fun m σ' H' => ∃ F' θ' O' δ', Gr F θ F' θ' ∧ Jn X.K F' H' θ' O' ∧ RS X.K F' θ' σ' δ' ∧ Pv m δ' O', ⟨m0, F, θ, O, δ, Gr.refl, j, s, h0⟩, ?_⟩
  rintro m σ2 H2 ⟨F2, θ2, O2, δ2, g2, j2, s2, pv⟩
  refine s0 F2 H2 θ2 O2 σ2 δ2 _ j2 s2 (turn m δ2 O2 pv) _ fun b F3 H3 θ3 O3 g3 j3 q3 => ?_
  have g := g2.trans g3
  cases b with
  | false => exact l.nx F3 H3 θ3 O3 σ2 δ2 g j3 (s2.mono g3) q3
  | true =>
    obtain ⟨N, hN, q3⟩ := q3
    rw [if_pos rfl]
    refine ⟨fun σ' H' => ∃ F' θ' O' δ', Gr F θ F' θ' ∧ Jn X.K F' H' θ' O' ∧ RS X.K F' θ' σ' δ' ∧ N δ' O', fun σ' H' h => ?_, ?_⟩
    · obtain ⟨F', θ', O', δ', a1, a2, a3, a4⟩ := h
      obtain ⟨m', lt, w⟩ := hN δ' O' a4
      exact ⟨m', lt, F', θ', O', δ', a1, a2, a3, w⟩
    · refine s1 F3 H3 θ3 O3 σ2 δ2 _ _ j3 (s2.mono g3) q3 ⟨fun F' H' θ' O' σ' δ' g' j' s' q' => ⟨F', θ', O', δ', g.trans g', j', s', q'⟩, fun F' H' θ' O' v w' g' j' r' q' => l.rt F' H' θ' O' v w' (g.trans g') j' r' q', fun F' H' θ' O' σ' δ' g' j' s' q' => l.nx F' H' θ' O' σ' δ' (g.trans g') j' s' q', fun F' H' θ' O' σ' δ' g' j' s' q' => ⟨F', θ', O', δ', g.trans g', j', s', q'⟩⟩
def dAug (i : Nat) (we : DE) (f : Int → Int → Int) : DTS := fun D δ O => ∃ x, δ[i]? = some (some x) ∧ we δ O fun y O1 => ∃ n m, x = .int n ∧ y = .int m ∧ D.nx (δ.set i (some (.int (f n m)))) O1
theorem es_augAdd {i : Nat} {x : Str} {pos' : Pos} (hN : X.N.Nodup) (hi : X.N[i]? = some x) (hx : Loc X.env.scope x) (h : ED X e we) (hf : X.fn x = true ∨ X.env.scope.names.lookup x = some .local := by first | exact .inl rfl | exact .inr rfl | assumption) :
    EDS X (.AugAssign (.Name x pos') .Add e pos) (dAug i we fun n m => n + m) := by
  obtain ⟨t0, p0, s0⟩ := h.ex
  refine ⟨_, ps_aug hN hi hx p0 ip_add hf, fun F H θ O σ δ D D' j s q l => ?_⟩
  obtain ⟨z, e1, q⟩ := q
  obtain ⟨v, e2, rv⟩ := s.2 i z e1
  refine ⟨v, e2, s0 F H θ O σ δ _ j s q _ fun u y F1 H1 θ1 O1 g1 j1 r1 q1 => ?_⟩
  obtain ⟨n, m, rfl, rfl, q1⟩ := q1
  exact ⟨n, m, rv.int_inv, r1.int_inv, l.nx F1 H1 θ1 O1 _ _ g1 j1 ((s.mono g1).set i (.int _)) q1⟩
/-- a value's truth: a list's, a tuple's -/
def dTru (we : DE) : DT := fun δ O S => we δ O fun x O1 => ∃ us, (x = .tup us ∨ ∃ k, x = .cell k ∧ LstC O1 k us) ∧ S (!us.isEmpty) O1
theorem et_tru (h : ED X a wa) (he : ∀ whole, isTrue a X.env whole = (do let v ← whole; standAt a.pos; holding [v] (truthy v)) := by intro _; rfl) : EDT X a (dTru wa) := by
  obtain ⟨t0, p0, s0⟩ := h.ex
  refine ⟨_, pt_truth p0 he, fun F H θ O σ δ S j s q Q k => ?_⟩
  refine s0 F H θ O σ δ _ j s q _ fun v x F1 H1 θ1 O1 g1 j1 r1 q1 => ?_
  obtain ⟨us, hx, q1⟩ := q1
  obtain ⟨p, vs, rfl, hq, rr⟩ := seq_rel j1 r1 hx
  have e : vs.isEmpty = us.isEmpty := by cases rr <;> rfl
  refine ⟨!us.isEmpty, ?_, k _ F1 H1 θ1 O1 g1 j1 q1⟩
  rcases hq with hq | hq
  · exact .inl ⟨vs, hq, by rw [e]⟩
  · exact .inr (.inl ⟨vs, hq, by rw [e]⟩)

/-! ### deep == -/
mutual
/-- the data that a value bears -/
inductive DW (O : Sto) : W → PyData → Prop
  | non : DW O .non .none
  | bl (b : Bool) : DW O (.bl b) (.bool b)
  | int (i : Int) : DW O (.int i) (.int i)
  | str (x : Str) : DW O (.str x) (.str x)
  | tup {ws : List W} {ds : List PyData} : DWs O ws ds → DW O (.tup ws) (.tuple ds)
  | cell {k : Nat} {ws : List W} {ds : List PyData} : LstC O k ws → DWs O ws ds → DW O (.cell k) (.list ds)
inductive DWs (O : Sto) : List W → List PyData → Prop
  | nil : DWs O [] []
  | cons {w : W} {ws : List W} {d : PyData} {ds : List PyData} : DW O w d → DWs O ws ds → DWs O (w :: ws) (d :: ds)
end
mutual
theorem DW.dp {K : PySem.W.Frag} {F H : Hp} {θ : List Addr} {O : Sto} (j : Jn K F H θ O) : ∀ {w : W} {d : PyData} {v : V}, DW O w d → RW K F θ v w → Dp K H v d
  | _, _, _, .non, r => by rw [r.non_inv]; exact .non
  | _, _, _, .bl b, r => by rw [r.bl_inv]; exact .bl b
  | _, _, _, .int i, r => by rw [r.int_inv]; exact .int i
  | _, _, _, .str x, r => by rw [r.str_inv]; exact .str x
  | _, _, _, .tup h, r => by
    obtain ⟨a, vs, rfl, hq, rr⟩ := r.tup_inv
    exact .tup (sqT_sub j hq) (DWs.dp j h rr)
  | _, _, _, .cell c h, r => by
    obtain ⟨a, rfl, ha⟩ := r.cell_inv
    obtain ⟨vs, hl, rr⟩ := j.lstC ha c
    exact .lst hl (DWs.dp j h rr)
theorem DWs.dp {K : PySem.W.Frag} {F H : Hp} {θ : List Addr} {O : Sto} (j : Jn K F H θ O) : ∀ {w : List W} {d : List PyData} {v : List V}, DWs O w d → RWs K F θ v w → DpAll K H v d
  | _, _, _, .nil, r => by cases r; exact .nil
  | _, _, _, .cons h t, r => by
    cases r with
    | cons r rr => exact .cons (DW.dp j h r) (DWs.dp j t rr)
end
def rEqP (K : PySem.W.Frag) (neg : Bool) : R2 := fun x y H Q => ∃ d e, Dp K H x d ∧ Dp K H y e ∧ d.plain = true ∧ e.plain = true ∧ min d.depth e.depth ≤ 64 ∧ Q (.bl (if neg then !PyData.eqv d e else PyData.eqv d e)) H
theorem op_eqP (hu : X.A.units + 64 < cLine) : OpR X (compareOp .Eq) (rEqP X.K false) := by
  intro pins s σ H x y v u Q I rx ry h
  obtain ⟨d, e, hd, he, h1, h2, h3, q⟩ := h
  obtain ⟨as, r1⟩ := Dp.reads I d x v hd rx
  obtain ⟨bs, r2⟩ := Dp.reads I e y u he ry
  exact SeqAt.eq_plain r1 r2 h1 h2 (by omega) ⟨.bl _, H, I, rfl, q⟩
theorem op_neP (hu : X.A.units + 64 < cLine) : OpR X (compareOp .NotEq) (rEqP X.K true) := by
  intro pins s σ H x y v u Q I rx ry h
  obtain ⟨d, e, hd, he, h1, h2, h3, q⟩ := h
  obtain ⟨as, r1⟩ := Dp.reads I d x v hd rx
  obtain ⟨bs, r2⟩ := Dp.reads I e y u he ry
  exact SeqAt.ne_plain r1 r2 h1 h2 (by omega) ⟨.bl _, H, I, rfl, q⟩
def rdEqD : R2D := fun x y O S => ∃ d e, DW O x d ∧ DW O y e ∧ d.plain = true ∧ e.plain = true ∧ min d.depth e.depth ≤ 64 ∧ S (.bl (PyData.eqv d e)) O
def rdNeD : R2D := fun x y O S => ∃ d e, DW O x d ∧ DW O y e ∧ d.plain = true ∧ e.plain = true ∧ min d.depth e.depth ≤ 64 ∧ S (.bl (!PyData.eqv d e)) O
theorem sr_eqD {K : PySem.W.Frag} : SR2 K (rEqP K false) rdEqD := by
  intro F H θ O x y v u S j rx ry q Q k
  obtain ⟨d, e, hd, he, h1, h2, h3, q⟩ := q
  exact ⟨d, e, hd.dp j rx, he.dp j ry, h1, h2, h3, k _ _ F H θ O Gr.refl j (.bl _) q⟩
theorem sr_neD {K : PySem.W.Frag} : SR2 K (rEqP K true) rdNeD := by
  intro F H θ O x y v u S j rx ry q Q k
  obtain ⟨d, e, hd, he, h1, h2, h3, q⟩ := q
  exact ⟨d, e, hd.dp j rx, he.dp j ry, h1, h2, h3, k _ _ F H θ O Gr.refl j (.bl _) q⟩
theorem et_eqD (hu : X.A.units + 64 < cLine) (ha : ED X a wa) (hb : ED X b wb) : EDT X (.Compare a [.Eq] [b] pos) (dTest (dOp rdEqD wa wb)) := et_cmp (op_eqP hu) sr_eqD ha hb (nomark _)
theorem et_neD (hu : X.A.units + 64 < cLine) (ha : ED X a wa) (hb : ED X b wb) : EDT X (.Compare a [.NotEq] [b] pos) (dTest (dOp rdNeD wa wb)) := et_cmp (op_neP hu) sr_neD ha hb (nomark _)
theorem ed_eqD (hu : X.A.units + 64 < cLine) (ha : ED X a wa) (hb : ED X b wb) : ED X (.Compare a [.Eq] [b] pos) (dOp rdEqD wa wb) := ed_cmp (op_eqP hu) sr_eqD ha hb (nomark _)
theorem ed_neD (hu : X.A.units + 64 < cLine) (ha : ED X a wa) (hb : ED X b wb) : ED X (.Compare a [.NotEq] [b] pos) (dOp rdNeD wa wb) := ed_cmp (op_neP hu) sr_neD ha hb (nomark _)
theorem hu64 {k : Nat} (hr : RoomG k X.A) : X.A.units + 64 < cLine := by
  have h := hr.r.un
  omega
end
end Dm

set_option Elab.async false
set_option linter.all false
set_option maxRecDepth 100000
set_option maxHeartbeats 4000000
/-! The data machine: dict comprehensions, zip, enumerate, slices of tuples, sorted, list(range), pop(), extend, sums of lists and texts, keywords. -/
namespace Dm
open PySem PySem.Spec PyProof.Rows L2
/-! ### dict comprehensions -/
def dDc (di : DS → Sto → (Wk → Sto → Prop) → Prop) (g : DG) (wt : DT) (wk wv : DE) (vs : List Nat) : DE := fun δ O S => di δ O fun w O1 => ∃ (n : Nat) (Pv : Nat → Sto → Prop), Pv 0 (O1 ++ [.dct []]) ∧
  ∀ i O, Pv i O → i ≤ n ∧ w.ok O ∧ (match w.at_ i O with
    | none => S (.cell O1.length) O
    | some z => i < n ∧ g z (wipeD δ vs) O fun δ2 O2 => wt δ2 O2 fun b O3 => if b = true then wk δ2 O3 fun y O4 => wv δ2 O4 fun u O5 => ∃ kvs key, keyW y = some key ∧ O5[O1.length]? = some (.dct kvs) ∧ kvs.length < sizeLine ∧ Pv (i + 1) (O5.set O1.length (.dct (putW kvs key u))) else Pv (i + 1) O3)
theorem dc_sound {K : PySem.W.Frag} {wi : TI} {di : DS → Sto → (Wk → Sto → Prop) → Prop} {g : TG} {gd : DG} {tt : TT} {wt : DT} {tk tv : TE} {wk wv : DE} {vs : List Nat} (s0 : SI K wi di) (s1 : SGc K g gd vs) (s2 : STt K tt wt) (s3 : SE K tk wk) (s4 : SE K tv wv) : SE K (tDc wi g tt tk tv vs) (dDc di gd wt wk wv vs) := by
  intro F H θ O σ δ S j s q Q k
  refine s0 F H θ O σ δ _ j s q _ fun J w F1 H1 θ1 O1 g1 j1 q1 turn D hD => ?_
  obtain ⟨n, Pv, h0, hq⟩ := q1
  have gp : Gr F1 θ1 F1 (θ1 ++ [D]) := Gr.push
  have hk0 : (θ1 ++ [D])[O1.length]? = some D := by
    rw [← j1.len]
    simp
  refine ⟨fun i m H' => m = n - i ∧ ∃ F' θ' O', Gr F1 (θ1 ++ [D]) F' θ' ∧ Jn K F' H' θ' O' ∧ Pv i O', ⟨n, by omega, F1, _, _, Gr.refl, j1.newC (c := .dct []) hD ⟨j1.freeF hD, [], upd_same, .nil⟩, h0⟩, ?_⟩
  rintro i m H2 ⟨rfl, F2, θ2, O2, g2, j2, pv⟩
  obtain ⟨hin, hok, hm⟩ := hq i O2 pv
  have gA : Gr F1 θ1 F2 θ2 := gp.trans g2
  rcases turn i F2 H2 θ2 O2 gA j2 hok with ⟨e, st⟩ | ⟨z, e, go, yl⟩
  · rw [e] at hm
    exact .inl ⟨st, k (.ref D) _ F2 H2 θ2 O2 (g1.trans gA) j2 (.cell (g2.at hk0)) hm⟩
  · rw [e] at hm
    obtain ⟨hlt, hm⟩ := hm
    refine .inr ⟨go, fun H' => ∃ F' θ' O', Gr F1 (θ1 ++ [D]) F' θ' ∧ Jn K F' H' θ' O' ∧ Pv (i + 1) O', fun H' h => ⟨n - (i + 1), by omega, rfl, h⟩, fun x H3 hy => ?_⟩
    obtain ⟨F3, θ3, g3, j3, r3⟩ := yl x H3 hy
    have s3' := ((s.mono (g1.trans (gA.trans g3))).wipe vs)
    refine s1 F3 H3 θ3 O2 _ _ x z _ j3 s3' r3 hm _ fun F4 H4 θ4 O4 σ4 δ4 g4 j4 q4' e4 q4 => ⟨e4.trans (wipe_wipe σ vs), ?_⟩
    refine s2 F4 H4 θ4 O4 σ4 δ4 _ j4 q4' q4 _ fun b F5 H5 θ5 O5 g5 j5 q5 => ?_
    have g25 : Gr F1 (θ1 ++ [D]) F5 θ5 := ((g2.trans g3).trans g4).trans g5
    cases b with
    | false => exact ⟨F5, θ5, O5, g25, j5, q5⟩
    | true =>
      refine s3 F5 H5 θ5 O5 σ4 δ4 _ j5 (q4'.mono g5) q5 _ fun y wy F6 H6 θ6 O6 g6 j6 r6 q6 => ?_
      refine s4 F6 H6 θ6 O6 σ4 δ4 _ j6 (q4'.mono (g5.trans g6)) q6 _ fun zz wz F7 H7 θ7 O7 g7 j7 r7 q7 => ?_
      obtain ⟨kvs, key, hk, ha, hz, pv7⟩ := q7
      have g27 := (g25.trans g6).trans g7
      have hD7 : θ7[O1.length]? = some D := g27.at hk0
      obtain ⟨f7, us, hu, ru⟩ := j7.dct hD7 ha
      exact ⟨us, key, key_rel r6 hk, hu, by rw [kv_len ru]; exact hz, F7, θ7, _, g27, j7.putD hD7 f7 (put_rel key r7 ru), pv7⟩
section
variable {X : Cx} {elt tg iter : Expr} {ifs : List Expr} {scope : Scope} {own : List (Str × Nat)} {pos : Pos} {di : DS → Sto → (Wk → Sto → Prop) → Prop} {gd : DG} {wt : DT} {wk wv : DE}
theorem ed_dc {kx vx : Expr} (hc : X.calm = true) (hN : X.N.Nodup) (hi : EDI X tg iter di) (ok : BlkOk X.N X.env.scope scope own) (hg : ∀ s H C cl fp, EDGc (Blk X scope s H C cl fp) (own.map (·.2)) tg gd) (ht : ∀ s H C cl fp, EDTs (Blk X scope s H C cl fp) ifs wt)
    (hk : ∀ s H C cl fp, ED (Blk X scope s H C cl fp) kx wk) (hv : ∀ s H C cl fp, ED (Blk X scope s H C cl fp) vx wv) (hs : ∀ x, foldedSetIterable iter X.env x = pure x := by intro _; rfl) : ED X (.DictComp kx vx [⟨tg, iter, ifs, 0⟩] scope pos) (dDc di gd wt wk wv (own.map (·.2))) := by
  obtain ⟨t0, p0, s0⟩ := hi.ex
  obtain ⟨t1, p1, s1⟩ := uni_g hg
  obtain ⟨t2, p2, s2⟩ := uni_t ht
  obtain ⟨t3, p3, s3⟩ := uni_e hk
  obtain ⟨t4, p4, s4⟩ := uni_e hv
  exact ⟨_, pe_dc hc hN p0 ok p1 p2 p3 p4 hs, dc_sound s0 s1 s2 s3 s4⟩
end
/-! ### zip, enumerate, texts -/
def LstQ (O : Sto) (y : W) (xs : List W) : Prop := ∃ k, y = .cell k ∧ LstC O k xs
/-- of the lists in two cells; of two tuples -/
def wkZL (k l : Nat) : Wk := ⟨fun i O => match (wkL k).at_ i O, (wkL l).at_ i O with
  | some x, some y => some (.tup [x, y])
  | _, _ => none, fun O => (wkL k).ok O ∧ (wkL l).ok O⟩
def wkZT (xs ys : List W) : Wk := ⟨fun i _ => match xs[i]?, ys[i]? with
  | some x, some y => some (.tup [x, y])
  | _, _ => none, fun _ => True⟩
def wkE (k : Nat) : Wk := ⟨fun i O => ((wkL k).at_ i O).map fun x => .tup [.int i, x], (wkL k).ok⟩
def wkS (x : Str) : Wk := ⟨fun i _ => x.cps[i]?.map fun c => .str ⟨#[c]⟩, fun _ => True⟩
def diZip (wa : DA) : DS → Sto → (Wk → Sto → Prop) → Prop := fun δ O S => wa δ O fun ws O1 => (∃ xs ys, ws = [.tup xs, .tup ys] ∧ S (wkZT xs ys) O1) ∨ ∃ k l xs ys, ws = [.cell k, .cell l] ∧ LstC O1 k xs ∧ LstC O1 l ys ∧ S (wkZL k l) O1
def diEnum (wa : DA) : DS → Sto → (Wk → Sto → Prop) → Prop := fun δ O S => wa δ O fun ws O1 => ∃ k xs, ws = [.cell k] ∧ LstC O1 k xs ∧ S (wkE k) O1
def diS (we : DE) : DS → Sto → (Wk → Sto → Prop) → Prop := fun δ O S => we δ O fun w O1 => ∃ x, w = .str x ∧ S (wkS x) O1
theorem ei_str {X : Cx} {tg e : Expr} {we : DE} (h : ED X e we) : EDI X tg e (diS we) := by
  obtain ⟨t0, p0, s0⟩ := h.ex
  refine ⟨_, pi_str p0, fun F H θ O σ δ S j s q R k => ?_⟩
  refine s0 F H θ O σ δ _ j s q _ fun v w F1 H1 θ1 O1 g1 j1 r1 q1 => ?_
  obtain ⟨x, rfl, q1⟩ := q1
  refine ⟨x, r1.str_inv, k _ _ F1 H1 θ1 O1 g1 j1 q1 fun i F2 H2 θ2 O2 g2 j2 _ => ?_⟩
  show (x.cps[i]?.map _ = none ∧ _) ∨ ∃ z, x.cps[i]?.map _ = some z ∧ _
  cases h : x.cps[i]? with
  | none => exact .inl ⟨rfl, (show x.cps.size ≤ i by simpa using h)⟩
  | some c =>
    refine .inr ⟨_, rfl, (Array.getElem?_eq_some_iff.mp h).1, fun v H3 hy => ?_⟩
    obtain ⟨rfl, c', e', rfl⟩ := hy
    rw [h] at e'
    cases e'
    exact ⟨F2, θ2, Gr.refl, j2, .str _⟩
theorem ei_enum {X : Cx} {e : Expr} {wa : DA} {p pos tpos : Pos} {elts : List Expr} {kk : Nat} (hg : Gl X "enumerate") (hm : X.mg "enumerate" = none) (ha : EDA X [e] wa) (hs : starEach [e] X.env = [(false, eval e X.env)] := by rfl) :
    EDI X (.Tuple elts kk tpos) (.Call (.Name "enumerate" p) [e] [] pos) (diEnum wa) := by
  obtain ⟨t0, p0, s0⟩ := ha.ex
  refine ⟨_, pi_enum hg hm p0 hs, fun F H θ O σ δ S j s q R k => ?_⟩
  refine s0 F H θ O σ δ _ j s q _ fun vs ws F1 H1 θ1 O1 g1 j1 r1 q1 => ?_
  obtain ⟨c, xs, rfl, hc, q1⟩ := q1
  obtain ⟨v, rfl, rv⟩ := r1.one_inv
  obtain ⟨a, rfl, ha⟩ := rv.cell_inv
  obtain ⟨us, hu, ru⟩ := j1.lstC ha hc
  refine ⟨a, us, rfl, hu, k _ _ F1 H1 θ1 O1 g1 j1 q1 fun i F2 H2 θ2 O2 g2 j2 ok => ?_⟩
  obtain ⟨zs, hz⟩ := ok
  obtain ⟨us2, hu2, ru2⟩ := j2.lstC (g2.at ha) hz
  show (((wkL c).at_ i O2).map _ = none ∧ _) ∨ ∃ z, ((wkL c).at_ i O2).map _ = some z ∧ _
  rw [wkL_at hz]
  cases h : zs[i]? with
  | none => exact .inl ⟨rfl, us2, hu2, by rw [ru2.length]; exact List.getElem?_eq_none_iff.mp h⟩
  | some z =>
    obtain ⟨v, ev, rv⟩ := ru2.get h
    refine .inr ⟨_, rfl, ⟨us2, v, hu2, ev⟩, fun x H3 hy => ?_⟩
    obtain ⟨T, y, rfl, hT, rfl, hx⟩ := hy
    have e2 := (hx us2 hu2).symm.trans ev
    cases e2
    have g3 : Gr F2 θ2 (L2.upd F2 T (.tup [.int (i : Nat), v])) θ2 := Gr.upd (j2.freeF hT)
    exact ⟨_, _, g3, j2.newT hT, .tup (.inl (.inl upd_same)) (.cons (.int _) (.cons (rv.mono g3) .nil))⟩
theorem ei_zip {X : Cx} {e e2 : Expr} {wa : DA} {p pos tpos : Pos} {elts : List Expr} {kk : Nat} (hg : Gl X "zip") (hm : X.mg "zip" = none) (ha : EDA X [e, e2] wa)
    (hs : starEach [e, e2] X.env = (false, eval e X.env) :: starEach [e2] X.env := by rfl) (hpl : (backTo pos (starEach [e2] X.env)).any (·.1) = false := by rfl) : EDI X (.Tuple elts kk tpos) (.Call (.Name "zip" p) [e, e2] [] pos) (diZip wa) := by
  obtain ⟨t0, p0, s0⟩ := ha.ex
  refine ⟨_, RZ.pi_zipA hg hm p0 hs hpl, fun F H θ O σ δ S j s q R k => ?_⟩
  refine s0 F H θ O σ δ _ j s q _ fun vs ws F1 H1 θ1 O1 g1 j1 r1 q1 => ?_
  rcases q1 with ⟨xs, ys, rfl, q1⟩ | ⟨c, d, xs, ys, rfl, hc, hd, q1⟩
  · obtain ⟨v, u, rfl, rv, ru⟩ := r1.two_inv
    obtain ⟨a, vs, rfl, hq, rr⟩ := rv.tup_inv
    obtain ⟨b, us, rfl, hq', rr'⟩ := ru.tup_inv
    refine ⟨a, b, vs, us, rfl, .inr ⟨sqT_sub j1 hq, sqT_sub j1 hq', k _ _ F1 H1 θ1 O1 g1 j1 q1 fun i F2 H2 θ2 O2 g2 j2 _ => ?_⟩⟩
    have e1 : SqT X.K H2 a vs := sqT_sub j2 (sqT_fz g2.fz hq)
    have e2 : SqT X.K H2 b us := sqT_sub j2 (sqT_fz g2.fz hq')
    show ((match xs[i]?, ys[i]? with | some x, some y => some (W.tup [x, y]) | _, _ => none) = none ∧ _) ∨ ∃ z, (match xs[i]?, ys[i]? with | some x, some y => some (W.tup [x, y]) | _, _ => none) = some z ∧ _
    cases h1 : xs[i]? with
    | none => exact .inl ⟨rfl, vs, us, e1, e2, .inl (by rw [rr.length]; exact List.getElem?_eq_none_iff.mp h1)⟩
    | some x =>
      cases h2 : ys[i]? with
      | none => exact .inl ⟨rfl, vs, us, e1, e2, .inr (by rw [rr'.length]; exact List.getElem?_eq_none_iff.mp h2)⟩
      | some y =>
        obtain ⟨v, ev, rv⟩ := (rr.mono g2).get h1
        obtain ⟨u, eu, ru⟩ := (rr'.mono g2).get h2
        refine .inr ⟨_, rfl, ⟨vs, us, v, u, e1, e2, ev, eu⟩, fun z H3 hy => ?_⟩
        obtain ⟨T, y1, y2, rfl, hT, rfl, f1, f2⟩ := hy
        have q1 := (f1 _ e1).symm.trans ev
        have q2 := (f2 _ e2).symm.trans eu
        cases q1
        cases q2
        have g3 : Gr F2 θ2 (L2.upd F2 T (.tup [v, u])) θ2 := Gr.upd (j2.freeF hT)
        exact ⟨_, _, g3, j2.newT hT, .tup (.inl (.inl upd_same)) (.cons (rv.mono g3) (.cons (ru.mono g3) .nil))⟩
  · obtain ⟨v, u, rfl, rv, ru⟩ := r1.two_inv
    obtain ⟨a, rfl, ha⟩ := rv.cell_inv
    obtain ⟨b, rfl, hb⟩ := ru.cell_inv
    obtain ⟨vs, hv, rr⟩ := j1.lstC ha hc
    obtain ⟨us, hu, rr'⟩ := j1.lstC hb hd
    refine ⟨a, b, vs, us, rfl, .inl ⟨hv, hu, k _ _ F1 H1 θ1 O1 g1 j1 q1 fun i F2 H2 θ2 O2 g2 j2 ok => ?_⟩⟩
    obtain ⟨⟨zs, hz⟩, ⟨zs', hz'⟩⟩ := ok
    obtain ⟨vs2, e1, rr2⟩ := j2.lstC (g2.at ha) hz
    obtain ⟨us2, e2, rr2'⟩ := j2.lstC (g2.at hb) hz'
    show ((match (wkL c).at_ i O2, (wkL d).at_ i O2 with | some x, some y => some (W.tup [x, y]) | _, _ => none) = none ∧ _) ∨ ∃ z, (match (wkL c).at_ i O2, (wkL d).at_ i O2 with | some x, some y => some (W.tup [x, y]) | _, _ => none) = some z ∧ _
    rw [wkL_at hz, wkL_at hz']
    cases h1 : zs[i]? with
    | none => exact .inl ⟨rfl, vs2, us2, e1, e2, .inl (by rw [rr2.length]; exact List.getElem?_eq_none_iff.mp h1)⟩
    | some x =>
      cases h2 : zs'[i]? with
      | none => exact .inl ⟨rfl, vs2, us2, e1, e2, .inr (by rw [rr2'.length]; exact List.getElem?_eq_none_iff.mp h2)⟩
      | some y =>
        obtain ⟨v, ev, rv⟩ := rr2.get h1
        obtain ⟨u, eu, ru⟩ := rr2'.get h2
        refine .inr ⟨_, rfl, ⟨vs2, us2, v, u, e1, e2, ev, eu⟩, fun z H3 hy => ?_⟩
        obtain ⟨T, y1, y2, rfl, hT, rfl, f1, f2⟩ := hy
        have q1 := (f1 _ e1).symm.trans ev
        have q2 := (f2 _ e2).symm.trans eu
        cases q1
        cases q2
        have g3 : Gr F2 θ2 (L2.upd F2 T (.tup [v, u])) θ2 := Gr.upd (j2.freeF hT)
        exact ⟨_, _, g3, j2.newT hT, .tup (.inl (.inl upd_same)) (.cons (rv.mono g3) (.cons (ru.mono g3) .nil))⟩

/-! ### slices of tuples, sums, sorted, list(range(..)) -/
section
variable {X : Cx} {a b c e : Expr} {es : List Expr} {wa wb wc we : DE} {wr : DA} {pos : Pos}
def dSlT (we : DE) (wl wh : DS → Sto → (Option Int → Sto → Prop) → Prop) : DE := fun δ O S => we δ O fun w O1 => wl δ O1 fun lo O2 => wh δ O2 fun hi O3 => ∃ ws, w = .tup ws ∧ ¬ (HT.sIx ws.length 0 lo = 0 ∧ HT.sIx ws.length ws.length hi = ws.length) ∧ S (.tup (cutW ws lo hi)) O3
theorem ed_slT {lo hi : Option Expr} {wl wh : DS → Sto → (Option Int → Sto → Prop) → Prop} {p2 : Pos} (he : ED X e we) (hl : EDO X lo wl) (hh : EDO X hi wh) : ED X (.Subscript e (.Slice lo hi none p2) pos) (dSlT we wl wh) := by
  obtain ⟨t0, p0, s0⟩ := he.ex
  obtain ⟨t1, p1, s1⟩ := hl.ex
  obtain ⟨t2, p2, s2⟩ := hh.ex
  refine ⟨_, pe_slice sl_tup p0 p1 p2, fun F H θ O σ δ S j s q Q k => ?_⟩
  refine s0 F H θ O σ δ _ j s q _ fun v w F1 H1 θ1 O1 g1 j1 r1 q1 => ?_
  refine s1 F1 H1 θ1 O1 σ δ _ j1 (s.mono g1) q1 _ fun lo F2 H2 θ2 O2 g2 j2 q2 => ?_
  refine s2 F2 H2 θ2 O2 σ δ _ j2 (s.mono (g1.trans g2)) q2 _ fun hi F3 H3 θ3 O3 g3 j3 q3 => ?_
  obtain ⟨ws, rfl, hn, q3⟩ := q3
  obtain ⟨a, vs, rfl, hq, rr⟩ := r1.tup_inv
  have g23 := g2.trans g3
  refine ⟨a, vs, rfl, sqT_sub j3 (sqT_fz g23.fz hq), by rw [rr.length]; exact hn, fun p hp => ?_⟩
  have g4 : Gr F3 θ3 (L2.upd F3 p (.tup (cutV vs lo hi))) θ3 := Gr.upd (j3.freeF hp)
  exact k _ _ _ _ _ _ ((g1.trans g23).trans g4) (j3.newT hp) (.tup (.inl (.inl upd_same)) ((cut_rel (rr.mono g23) lo hi).mono g4)) q3
def rdSorted : RCD := fun ws O S => ∃ (k : Nat) (ns : List Int), ws = [.cell k] ∧ LstC O k (ns.map W.int) ∧ ∀ ns' : List Int, ns'.Perm ns → ns'.Pairwise (· ≤ ·) → S (.cell O.length) (O ++ [.lst (ns'.map W.int)])
theorem src_sorted {K : PySem.W.Frag} : SRC K (rSortedI K) rdSorted := by
  intro F H θ O vs ws S j r q Q k
  obtain ⟨c, ns, rfl, hc, q⟩ := q
  obtain ⟨v, rfl, rv⟩ := r.one_inv
  obtain ⟨a, rfl, ha⟩ := rv.cell_inv
  obtain ⟨xs, hl, rr⟩ := j.lstC ha hc
  refine ⟨a, ns, rfl, by rw [← ints_rel rr]; exact hl, fun ns' p h1 h2 hp => ?_⟩
  exact k _ _ _ _ _ _ Gr.push (j.newL hp RWs.ints) (.cell (by rw [← j.len]; simp)) (q ns' h1 h2)
def dListR (wa : DA) : DE := fun δ O S => wa δ O fun ws O1 => ∃ n : Int, ws = [.int n] ∧ 0 ≤ n ∧ n < 100000 ∧ S (.cell O1.length) (O1 ++ [.lst ((List.range n.toNat).map fun i => W.int (i : Nat))])
def rdCatL : R2D := fun x y O S => ∃ k l xs ys, x = .cell k ∧ y = .cell l ∧ O[k]? = some (.lst xs) ∧ O[l]? = some (.lst ys) ∧ xs.length + ys.length ≤ sizeLine ∧ S (.cell O.length) (O ++ [.lst (xs ++ ys)])
theorem sr_catL {K : PySem.W.Frag} : SR2 K rCat rdCatL := by
  intro F H θ O x y v u S j rx ry q Q k
  obtain ⟨c, d, xs, ys, rfl, rfl, hc, hd, hz, q⟩ := q
  obtain ⟨a, rfl, ha⟩ := rx.cell_inv
  obtain ⟨b, rfl, hb⟩ := ry.cell_inv
  obtain ⟨f, vs, hv, rr⟩ := j.lst ha hc
  obtain ⟨f', us, hu, rr'⟩ := j.lst hb hd
  refine ⟨a, b, vs, us, rfl, rfl, hv, hu, by rw [rr.length, rr'.length]; exact hz, fun p hp => ?_⟩
  exact k _ _ _ _ _ _ Gr.push (j.newL hp (rr.append rr')) (.cell (by rw [← j.len]; simp)) q
abbrev dCatL := dOp rdCatL
theorem ed_catL (ha : ED X a wa) (hb : ED X b wb) : ED X (.BinOp a .Add b pos) (dCatL wa wb) := ed_op op_cat sr_catL ha hb
def rdCatS : R2D := fun x y O S => ∃ i j, x = .str i ∧ y = .str j ∧ i.length + j.length ≤ sizeLine ∧ S (.str (i ++ j)) O
theorem sr_catS {K : PySem.W.Frag} : SR2 K (fun x y H Q => ∃ i j, x = .str i ∧ y = .str j ∧ i.length + j.length ≤ sizeLine ∧ Q (.str (i ++ j)) H) rdCatS := by
  intro F H θ O x y v u S j rx ry q Q k
  obtain ⟨i, l, rfl, rfl, hz, q⟩ := q
  exact ⟨i, l, rx.str_inv, ry.str_inv, hz, k _ _ F H θ O Gr.refl j (.str _) q⟩
abbrev dCatS := dOp rdCatS
theorem ed_catS (ha : ED X a wa) (hb : ED X b wb) : ED X (.BinOp a .Add b pos) (dCatS wa wb) := ed_op op_add_str sr_catS ha hb

/-! ### pop(), extend -/
def dBM0 (ok : W → Sto → Prop) (rd : RMD) (wo : DE) : DE := fun δ O S => wo δ O fun x O1 => ok x O1 ∧ rd x [] O1 S
theorem ed_bm0 {name : Str} {apos cpos : Pos} {T id : String} {r : V → List V → Hp → VK → Prop} {rd : RMD} {ok : W → Sto → Prop} (pa : PlainAttrs T) (slot : Slot T name id) (hty : typeOf (.builtin id) = pure (.type "method_descriptor")) (hm : MtR X id r) (hs : STy X.K T ok) (hr : SRM X.K T r rd) (ho : ED X a wa)
    (hbase : attributeBase a name X.env (eval a X.env) = eval a X.env := by rfl) (hline : (apos.endLine == cpos.line) = true := by rfl) : ED X (.Call (.Attribute a name apos) [] [] cpos) (dBM0 ok rd wa) := by
  obtain ⟨t0, p0, s0⟩ := ho.ex
  refine ⟨_, pe_bm0 pa slot hty hm p0 hbase hline, fun F H θ O σ δ S j s q Q k => ?_⟩
  refine s0 F H θ O σ δ _ j s q _ fun v x F1 H1 θ1 O1 g1 j1 r1 q1 => ⟨hs F1 H1 θ1 O1 v x j1 r1 q1.1, ?_⟩
  exact hr F1 H1 θ1 O1 v x [] [] S j1 r1 .nil q1.2 Q fun z w F3 H3 θ3 O3 g3 => k z w F3 H3 θ3 O3 (g1.trans g3)
theorem RWs.dropLast {K : PySem.W.Frag} {F : Hp} {θ : List Addr} : ∀ {vs : List V} {ws : List W}, RWs K F θ vs ws → RWs K F θ vs.dropLast ws.dropLast
  | _, _, .nil => .nil
  | _, _, .cons r .nil => .nil
  | _, _, .cons r (.cons q t) => .cons r (RWs.dropLast (.cons q t))
def rdPop : RMD := fun x ws O S => ∃ k us w, x = .cell k ∧ ws = [] ∧ O[k]? = some (.lst us) ∧ us[us.length - 1]? = some w ∧ S w (O.set k (.lst us.dropLast))
theorem srm_pop {K : PySem.W.Frag} : SRM K "list" rPop rdPop := by
  intro F H θ O v x vs ws S j r rs q Q k
  obtain ⟨c, us, w, rfl, rfl, hc, hw, q⟩ := q
  obtain ⟨a, rfl, ha⟩ := r.cell_inv
  cases rs
  obtain ⟨f, xs, hx, rr⟩ := j.lst ha hc
  obtain ⟨z, hz, rz⟩ := rr.get hw
  exact ⟨a, xs, z, rfl, rfl, hx, by rw [rr.length]; exact hz, k _ _ F _ θ _ Gr.refl (j.putL ha f rr.dropLast) rz q⟩
def rdExtend : RMD := fun x ws O S => ∃ k l us zs, x = .cell k ∧ ws = [.cell l] ∧ O[k]? = some (.lst us) ∧ O[l]? = some (.lst zs) ∧ us.length + zs.length ≤ sizeLine ∧ S .non (O.set k (.lst (us ++ zs)))
theorem srm_extend {K : PySem.W.Frag} : SRM K "list" rExtend rdExtend := by
  intro F H θ O v x vs ws S j r rs q Q k
  obtain ⟨c, d, us, zs, rfl, rfl, hc, hd, hz, q⟩ := q
  obtain ⟨a, rfl, ha⟩ := r.cell_inv
  obtain ⟨y, rfl, ry⟩ := rs.one_inv
  obtain ⟨b, rfl, hb⟩ := ry.cell_inv
  obtain ⟨f, xs, hx, rr⟩ := j.lst ha hc
  obtain ⟨f', ys, hy, rr'⟩ := j.lst hb hd
  exact ⟨a, b, xs, ys, rfl, rfl, hx, hy, by rw [rr.length, rr'.length]; exact hz, k _ _ F _ θ _ Gr.refl (j.putL ha f (rr.append rr')) .non q⟩
theorem ed_listR {p p2 q : Pos} (hc : X.calm = true) (hg : Gl X "list") (hm : X.mg "list" = none) (hg2 : Gl X "range") (hm2 : X.mg "range" = none) (ha : ED X a wa) (na : starEach [a] X.env = (false, eval a X.env) :: starEach [] X.env := by rfl)
    (nr : starEach [.Call (.Name "range" p2) [a] [] q] X.env = (false, eval (.Call (.Name "range" p2) [a] [] q) X.env) :: starEach [] X.env := by rfl) : ED X (.Call (.Name "list" p) [.Call (.Name "range" p2) [a] [] q] [] pos) (dListR (dCons wa dNil)) := by
  obtain ⟨t0, p0, s0⟩ := ha.ex
  refine ⟨_, pe_listRg hc hg hm (prg_1 hg2 hm2 p0 na) nr, fun F H θ O σ δ S j s q Q k => ?_⟩
  refine s0 F H θ O σ δ _ j s q _ fun v w F1 H1 θ1 O1 g1 j1 r1 q1 => ?_
  obtain ⟨n, e, h0, h1, q1⟩ := q1
  have e' : w = .int n := List.head_eq_of_cons_eq e
  subst e'
  refine ⟨n, r1.int_inv, ⟨by omega, by omega, by omega, by omega, by omega⟩, fun p hp => ?_⟩
  have ev : rgV 0 n = (List.range n.toNat).map fun i => V.int (i : Nat) := by
    unfold rgV
    rw [Int.sub_zero]
    refine List.map_congr_left fun i _ => ?_
    rw [Int.zero_add]
  have rr : RWs X.K F1 θ1 (rgV 0 n) ((List.range n.toNat).map fun i => W.int (i : Nat)) := by
    rw [ev]
    induction List.range n.toNat with
    | nil => exact .nil
    | cons i r ih => exact .cons (.int _) ih
  exact k _ _ _ _ _ _ (g1.trans Gr.push) (j1.newL hp rr) (.cell (by rw [← j1.len]; simp)) q1
end
end Dm

set_option Elab.async false
set_option linter.all false
set_option maxRecDepth 100000
set_option maxHeartbeats 4000000
/-! Classes of exceptions of the program with own __init__, called with keywords. -/
namespace Dm
open PySem PySem.Spec PyProof.Rows PySem.W PySem.Calls PySem.HandSPX
section
variable {prog : Program} {w : World} {A : Around} {E : Value → Shared → Prop} {R : Result → Shared → Prop} {h : Heap} {g : Array GenState} {d : Drawn} {t : Nat} {os : OsState}
variable {nm q : Str} {C N : Addr} {bs bm bmB : List Value} {hdct : Bool} {sn : List Str} {sub : List Value} {ab : Bool} {col : Option Bool} {dd : Option Addr} {k0 k1 k2 k3 k5 : Option Value} {B newId initId : String} {kw : List (Str × Value)}
theorem kw_chk {M : Model} {rest : List Value} {Q : Unit → Shared → Prop} (hC : h.get? C = some (excClassObj nm q C N bs bm hdct sn sub ab col dd k0 k1 k2 k3 k5 newId))
    (done : Q () ⟨h, g, d, t, os⟩) : wpAny M A (checkBuiltinCall "type.__call__" ⟨.ref C :: rest, kw⟩) Q E ⟨h, g, d, t, os⟩ := by
  have z3 := tc_sub
  have zT : (⟨h, g, d, t, os⟩ : Shared).TypeIs (.ref C) "type" := ⟨_, hC, rfl⟩
  simp only [checkBuiltinCall, tc_kind, tc_split]
  repeat (any_goals (first | assumption | (with_reducible refine wpAny_loadPart_at hC ?_) | (with_reducible refine wpAny_onRaise ?_) | (with_reducible refine wpAny_map ?_) | wp_step))
theorem kw_new (F : ExcBaseFacts B newId initId bmB) (hT : ∀ X : String, bm.contains (.type X) = bmB.contains (.type X)) {rest : List Value} {Q : Unit → Shared → Prop}
    (hC : h.get? C = some (excClassObj nm q C N bs bm hdct sn sub ab col dd k0 k1 k2 k3 k5 newId)) (done : Q () ⟨h, g, d, t, os⟩) : wpAny (model prog w) A (checkBuiltinCall newId ⟨.ref C :: rest, kw⟩) Q E ⟨h, g, d, t, os⟩ := by
  have zB : (Value.ref C :: bm).contains (.type B) = true := by rw [List.contains_cons, hT, F.hasB, Bool.or_true]
  have zS := F.noStar
  simp only [checkBuiltinCall, F.newKind, F.newSplit, F.newRow]
  repeat (first | refine wpAny_loadPart_at hC ?_ | (refine wpAny_isSubtype_exc hC ?_; rw [zB]) | refine wpAny_staticBase_exc hC ?_ | refine wpAny_madeBy_exc hC ?_ | simp only [bne_self_eq_false, Bool.false_eq_true, if_false] | wp_step)
  exact done
theorem kw_made (F : ExcBaseFacts B newId initId bmB) (hT : ∀ X : String, bm.contains (.type X) = bmB.contains (.type X)) {rest : List Value}
    (hC : h.get? C = some (excClassObj nm q C N bs bm hdct sn sub ab col dd k0 k1 k2 k3 k5 newId))
    (done : R (.ok (.ret (.ref (h.objs.size + 1)))) ⟨(h.push (W.kdv_tup rest)).push (excO C h.objs.size), g, d, t, os⟩) (hrest : rest.length ≤ sizeLine) :
    codeAny (model prog w) A (.builtin newId ⟨.ref C :: rest, kw⟩) R ⟨h, g, d, t, os⟩ := by
  have zE := F.ends
  have zB : (Value.ref C :: bm).contains (.type B) = true := by rw [List.contains_cons, hT, F.hasB, Bool.or_true]
  have zA : (Value.ref C :: bm).contains (.type "AttributeError") = false := by rw [List.contains_cons, hT, F.noAttr]; rfl
  have zN : (Value.ref C :: bm).contains (.type "NameError") = false := by rw [List.contains_cons, hT, F.noName]; rfl
  refine codeAny_builtinAt F.entry ?_
  unfold Builtin.«BaseException.__new__»
  refine PySem.wpAt_bind ?_
  show PySem.wpAt _ _ _ (stack >>= _) _ _ _
  refine PySem.wpAt_bind (PySem.wpAt_stack fun p below => PySem.wpAt_of_wpAny ?_)
  wp_walk
  refine PySem.wpAt_of_wpAny ?_
  rw [F.owner]
  repeat (first | with_reducible refine wpAny_madeHere_exc F.canon hC ?_ | with_reducible refine wpAny_loadPart_at hC ?_ | (with_reducible refine wpAny_isSubtype_exc hC ?_; first | rw [zB] | rw [zA] | rw [zN]) | wp_step)
  show R _ _
  rw [Heap.size_push]
  exact done
theorem kw_call (F : ExcBaseFacts B newId initId bmB) (hT : ∀ X : String, bm.contains (.type X) = bmB.contains (.type X)) {rest : List Value} {fI : Addr} {Q : Fin → Shared → Prop}
    (hC : h.get? C = some (excClassObj nm q C N bs bm hdct sn sub ab col dd k0 k1 k2 k3 k5 newId))
    (hi : W.Looks (model prog w) h (typeLookup (.ref C) "__init__") (some (.ref fI))) (hb : ∀ self, W.Looks (model prog w) h (bindSpecial (.ref fI) self) (.ref fI, [self])) (hrest : rest.length ≤ sizeLine)
    (done : codeAny (model prog w) A (.call (.ref fI) ⟨.ref (h.objs.size + 1) :: rest, kw⟩)
      (fun r s' => match r with | .ok (.ret v) => v = .none ∧ Q (.done (.ret (.ref (h.objs.size + 1)))) s' | .ok _ => False | .error e => E e s')
      ⟨(h.push (W.kdv_tup rest)).push (excO C h.objs.size), g, d, t, os⟩) :
    wpAny (model prog w) A (Builtin.«type.__call__» ⟨.ref C :: rest, kw⟩) Q E ⟨h, g, d, t, os⟩ := by
  repeat (first | with_reducible refine wpAny_loadPart_at hC ?_ | with_reducible refine wpAny_madeBy_exc hC ?_ | wp_step)
  refine codeAny_call_builtin_code (Code.quiet_builtin _ F.quiet) (kw_new F hT hC ?_)
  refine kw_made F hT hC ?_ hrest
  show wpAny _ _ _ _ _ _
  have kk : ∀ b o, h.get? b = some o → ((h.push (W.kdv_tup rest)).push (excO C h.objs.size)).get? b = some o := fun b o e => Heap.get?_push_of_some _ (Heap.get?_push_of_some _ e)
  have zC := kk _ _ hC
  have zg : ((h.push (W.kdv_tup rest)).push (excO C h.objs.size)).get? (h.objs.size + 1) = some (excO C h.objs.size) := by heap_get
  have zc : (Value.ref C :: bm).contains (.ref C) = true := by simp
  have zi := hi.keeps kk
  have zb := (hb (.ref (h.objs.size + 1))).keeps kk
  unfold isInstance
  repeat (first | with_reducible refine wpAny_loadPart_at zg ?_ | (with_reducible refine wpAny_isSubtype_exc zC ?_; rw [zc]) | wp_step)
  show wpAny _ _ (typeLookup (.ref C) _) _ _ _
  refine zi.at ?_
  refine wpAny_holding (wpAny_bind (zb.at ?_))
  refine wpAny_bind (wpAny_call (codeAny_mono done fun r s' z => ?_))
  rcases r with e | (v | _ | _ | _) <;> first | exact z | exact z.elim | skip
  obtain ⟨rfl, z⟩ := z
  first
    | exact wpAny_pure (wpAny_pure z)
    | (wp_walk; exact z)
theorem kw_own (F : ExcBaseFacts B newId initId bmB) (hT : ∀ X : String, bm.contains (.type X) = bmB.contains (.type X)) {rest : List Value} {fI : Addr}
    (hC : h.get? C = some (excClassObj nm q C N bs bm hdct sn sub ab col dd k0 k1 k2 k3 k5 newId))
    (hi : W.Looks (model prog w) h (typeLookup (.ref C) "__init__") (some (.ref fI))) (hb : ∀ self, W.Looks (model prog w) h (bindSpecial (.ref fI) self) (.ref fI, [self])) (hrest : rest.length ≤ sizeLine)
    (done : codeAny (model prog w) (A.under (.builtin "type.__call__" ⟨.ref C :: rest, kw⟩)) (.call (.ref fI) ⟨.ref (h.objs.size + 1) :: rest, kw⟩) (W.InitBack (h.objs.size + 1) R)
      ⟨(h.push (W.kdv_tup rest)).push (excO C h.objs.size), g, d, t, os⟩) :
    codeAny (model prog w) A (.call (.ref C) ⟨rest, kw⟩) R ⟨h, g, d, t, os⟩ := by
  have z1 := tc_lookup
  have z2 := tc_bind (.ref C)
  have zT : (⟨h, g, d, t, os⟩ : Shared).TypeIs (.ref C) "type" := ⟨_, hC, rfl⟩
  refine codeAny_of_tree ?_
  show wpAny _ _ (callAny (.ref C) _) _ _ _
  repeat (any_goals (first | assumption | with_reducible refine wpAny_loadPart_at hC ?_ | wp_step))
  refine ⟨rfl, ?_⟩
  refine codeAny_call_builtin_at (Code.quiet_builtin _ (by decide +kernel)) entry_typeCall (kw_chk hC (kw_call F hT hC hi hb hrest ?_))
  refine codeAny_mono done fun r s' z => ?_
  rcases r with e | (v | _ | _ | _) <;> exact z
end
end Dm

set_option Elab.async false
set_option linter.all false
set_option maxRecDepth 100000
set_option maxHeartbeats 4000000
/-! The data machine: exceptions. -/
namespace Dm
open PySem PySem.Spec PyProof.Rows L2

/-! ### classes of exceptions -/
/-- what a class of exceptions of the program says -/
structure XC (K : PySem.W.Frag) (C : Addr) : Prop where
  cl : (PySem.W.clsIn K C).isSome = true
  ga : PySem.W.findIn K (.ref C) "__getattribute__" = some (some (.builtin "BaseException.__getattribute__"))
  gg : PySem.W.findIn K (.ref C) "__getattr__" = some none
  sb : PySem.W.subIn K (.ref C) (.type "BaseException") = some true
  ca : PySem.W.findIn K (.ref C) "__class__" = some (some (.builtin "object.__class__"))
  sp : PySem.W.specialIn K (.builtin "object.__class__") "__get__" = some (some (.builtin "getset_descriptor.__get__"))
  tk : PySem.W.takesIn K (.builtin "object.__class__") = some true
  mr : PySem.W.mroIn K C (.type "object") = some true
  hd : PySem.W.hasDictIn K C = true
  kp : PySem.W.keepIn K (.ref C) = true
  ty : PySem.W.typeIn K (.ref C) = some (.type "type")
def xcB (K : PySem.W.Frag) (C : Addr) : Bool := (PySem.W.clsIn K C).isSome &&
  (He.eqO (PySem.W.findIn K (.ref C) "__getattribute__") (some (some (.builtin "BaseException.__getattribute__"))) && (He.eqO (PySem.W.findIn K (.ref C) "__getattr__") (some none) &&
  (decide (PySem.W.subIn K (.ref C) (.type "BaseException") = some true) && (He.eqO (PySem.W.findIn K (.ref C) "__class__") (some (some (.builtin "object.__class__"))) &&
  (He.eqO (PySem.W.specialIn K (.builtin "object.__class__") "__get__") (some (some (.builtin "getset_descriptor.__get__"))) && (decide (PySem.W.takesIn K (.builtin "object.__class__") = some true) &&
  (decide (PySem.W.mroIn K C (.type "object") = some true) && (PySem.W.hasDictIn K C && (PySem.W.keepIn K (.ref C) && decide (PySem.W.typeIn K (.ref C) = some (.type "type")))))))))))
theorem xcB_ok {K : PySem.W.Frag} {C : Addr} (h : xcB K C = true) : XC K C := by
  obtain ⟨h1, h⟩ := He.ba h
  obtain ⟨h2, h⟩ := He.ba h
  obtain ⟨h3, h⟩ := He.ba h
  obtain ⟨h4, h⟩ := He.ba h
  obtain ⟨h5, h⟩ := He.ba h
  obtain ⟨h6, h⟩ := He.ba h
  obtain ⟨h7, h⟩ := He.ba h
  obtain ⟨h8, h⟩ := He.ba h
  obtain ⟨h9, h⟩ := He.ba h
  obtain ⟨h10, h11⟩ := He.ba h
  exact ⟨h1, He.eqO_ok h2, He.eqO_ok h3, of_decide_eq_true h4, He.eqO_ok h5, He.eqO_ok h6, of_decide_eq_true h7, of_decide_eq_true h8, h9, h10, of_decide_eq_true h11⟩
/-- .. without an __init__ of its own -/
structure XC0 (K : PySem.W.Frag) (C : Addr) : Prop extends XC K C where
  ex : PySem.W.excIn K C He.veBase "ValueError.__new__" = true
def xc0B (K : PySem.W.Frag) (C : Addr) : Bool := xcB K C && PySem.W.excIn K C He.veBase "ValueError.__new__"
theorem xc0B_ok {K : PySem.W.Frag} {C : Addr} (h : xc0B K C = true) : XC0 K C := ⟨xcB_ok (He.ba h).1, (He.ba h).2⟩
/-- .. with one -/
structure XCI (K : PySem.W.Frag) (C fI : Addr) : Prop extends XC K C where
  ox : OexC K C
  iC : PySem.W.findIn K (.ref C) "__init__" = some (some (.ref fI))
  tI : PySem.W.typeIn K (.ref fI) = some (.type "function")
def oexB (K : PySem.W.Frag) (C : Addr) : Bool := match K.lookup C with
  | some ⟨.type ty, _, .cls cd, sl⟩ => decide (ty = "type") && (match cd.mro, sl.toList with
    | .ref C' :: bm, [_, _, _, _, some (.builtin n), _] => decide (C' = C) && (PySem.HandSPX.refsVE bm && (cd.hasDict && (!cd.hasDel && decide (n = "ValueError.__new__"))))
    | _, _ => false)
  | _ => false
def xciB (K : PySem.W.Frag) (C fI : Addr) : Bool := xcB K C && (oexB K C && (He.eqO (PySem.W.findIn K (.ref C) "__setattr__") (some (some (.builtin "object.__setattr__"))) &&
  (He.eqO (PySem.W.findIn K (.ref C) "__init__") (some (some (.ref fI))) && decide (PySem.W.typeIn K (.ref fI) = some (.type "function")))))
theorem oexB_ok {K : PySem.W.Frag} {C : Addr} (h : oexB K C = true) : ∃ nm q N bs bm sn sub ab col dd k0 k1 k2 k3 k5, K.lookup C = some (excClassObj nm q C N bs bm true sn sub ab col dd k0 k1 k2 k3 k5 "ValueError.__new__") ∧ PySem.HandSPX.refsVE bm = true := by
  unfold oexB at h
  split at h
  · rename_i ty dd cd sl ho
    obtain ⟨h0, h⟩ := He.ba h
    split at h
    · rename_i C' bm k0 k1 k2 k3 n k5 hm hs
      obtain ⟨h1, h⟩ := He.ba h
      obtain ⟨h2, h⟩ := He.ba h
      obtain ⟨h3, h⟩ := He.ba h
      obtain ⟨h4, h5⟩ := He.ba h
      obtain rfl := of_decide_eq_true h0
      obtain rfl := of_decide_eq_true h1
      obtain rfl := of_decide_eq_true h5
      obtain ⟨nm, bs, mro, ns, qn, hd, sn, sub, ab, col, del⟩ := cd
      dsimp only at hm h3 h4
      subst hm h3
      have h6 : del = false := by cases del <;> simp_all
      subst h6
      have hsl : sl = #[k0, k1, k2, k3, some (.builtin "ValueError.__new__"), k5] := by
        obtain ⟨l⟩ := sl
        simp only at hs
        rw [hs]
      subst hsl
      exact ⟨nm, qn, ns, bs, bm, sn, sub, ab, col, dd, k0, k1, k2, k3, k5, ho, h2⟩
    · cases h
  · cases h
theorem xciB_ok {K : PySem.W.Frag} {C fI : Addr} (h : xciB K C fI = true) : XCI K C fI := by
  obtain ⟨h1, h⟩ := He.ba h
  obtain ⟨h2, h⟩ := He.ba h
  obtain ⟨h3, h⟩ := He.ba h
  obtain ⟨h4, h5⟩ := He.ba h
  have x := xcB_ok h1
  exact ⟨x, ⟨oexB_ok h2, He.eqO_ok h3, x.sb, x.ty, x.kp⟩, He.eqO_ok h4, of_decide_eq_true h5⟩
/-! ### asked, read -/
section
variable {X : Cx} {te : TE} {e : Expr} {pos : Pos} {n : Str}
theorem inst_none {H : Hp} {s : Shared} {pins : List (Addr × Obj)} {σ : L2.St} {a D : Addr} (I : Inv X pins σ H s) (h : H a = some (ExO (.ref D) a)) : ∃ ox, PySem.W.InstAt s.heap a ox D none := by
  obtain ⟨⟨oe, vs, ho, ⟨h1, h2⟩, hd, _⟩, _, _⟩ := I.hok a _ h
  obtain ⟨oc, od, oda, osl⟩ := oe
  dsimp only at h1 h2 hd
  subst h1 h2 hd
  exact ⟨_, ho, rfl, rfl, trivial⟩
theorem inst_some {H : Hp} {s : Shared} {pins : List (Addr × Obj)} {σ : L2.St} {a D d : Addr} {fs : List (Str × V)} (I : Inv X pins σ H s) (h : H a = some (exo a D (some d))) (h2 : H d = some (exd d fs)) :
    ∃ ox od, PySem.W.InstAt s.heap a ox D (some od) ∧ ∃ mA : Str → Option Value, (∀ f, RelO (fs.lookup f) (mA f)) ∧ ∀ x, PySem.W.lookIn x od = some (mA x) := by
  obtain ⟨t1, ho⟩ := exo_at I.hok h
  obtain ⟨mA, hns, hr⟩ := exd_at I.hok h2
  obtain ⟨od, hod, hl⟩ := lookIn_ns hns
  exact ⟨_, od, ⟨ho, rfl, rfl, hod⟩, mA, hr, hl⟩
/-- isinstance of an exception that the program holds as a value -/
def rIsO (K : PySem.W.Frag) : List V → Hp → VK → Prop := fun xs H Q => ∃ (a D : Addr) (c : V) (cv : Value) (b : Bool), xs = [.ref a, c] ∧ (H a = some (ExO (.ref D) a) ∨ ∃ d fs, H a = some (exo a D (some d)) ∧ H d = some (exd d fs)) ∧ XC K D ∧
  (∀ u, RelV c u → u = cv) ∧ PySem.W.kitOne K (.ref D) cv = some b ∧ Q (.bl b) H
theorem call_isO : CallR X (.builtin "isinstance") (rIsO X.K) := by
  intro pins s σ H xs us Q I r h
  obtain ⟨a, D, c, cv, b, rfl, ho, C, hcv, e, q⟩ := h
  cases r with
  | cons rx rr =>
    cases rr with
    | cons rt rr =>
      cases rr
      cases rx
      have ec := hcv _ rt
      subst ec
      have out : ∀ {ox od}, PySem.W.InstAt s.heap a ox D od → _ := fun {ox od} J => PySem.W.kia_one (Q := EP X pins σ Q) (E := X.xe) (A := X.A) (prog := X.prog) (w := X.w) (PySem.W.kitx_exc (ox := ox) (od := od) C.cl C.ga C.gg C.sb C.ca C.sp C.tk C.mr) I.kIn J e (fun z => nomatch z) fun tk => ⟨.bl b, H, I.kept (t' := tk) fun _ _ z => z, rfl, q⟩
      rcases ho with ho | ⟨d, fs, h1, h2⟩
      · obtain ⟨ox, J⟩ := inst_none I ho
        exact out J
      · obtain ⟨ox, od, J, _⟩ := inst_some I h1 h2
        exact out J
/-- isinstance of the exception that a suite holds -/
def rIsC (K : PySem.W.Frag) (a : Addr) (cls : Value) : List V → Hp → VK → Prop := fun xs H Q => ∃ (D : Addr) (c : V) (cv : Value) (b : Bool), cls = .ref D ∧ xs = [.ref a, c] ∧ XC K D ∧ (∀ u, RelV c u → u = cv) ∧ PySem.W.kitOne K (.ref D) cv = some b ∧ Q (.bl b) H
/-- o.n of such a value -/
def tXo (K : PySem.W.Frag) (n : Str) (te : TE) : TE := fun σ H Q => te σ H fun x H1 => ∃ (a C d : Addr) (fs : List (Str × V)) (v : V), x = .ref a ∧ XC K C ∧ PySem.W.findIn K (.ref C) n = some none ∧ H1 a = some (exo a C (some d)) ∧ H1 d = some (exd d fs) ∧ fs.lookup n = some v ∧ Q v H1
theorem pe_xo (he : PE X e te) (hb : attributeBase e n X.env (eval e X.env) = eval e X.env := by rfl) : PE X (.Attribute e n pos) (tXo X.K n te) := by
  refine ⟨fun pins s σ H Q I h => ?_⟩
  refine attr_of hb (thn (he.run pins s σ H _ I h) fun u s1 hh => ?_)
  obtain ⟨x, H1, I1, rx, a, C, d, fs, v, rfl, xc, hno, h1, h2, l, q⟩ := hh
  obtain rfl : u = Value.ref a := rx
  obtain ⟨ox, od, J, mA, hr, hl⟩ := inst_some I1 h1 h2
  obtain ⟨u, hu, ru⟩ := RelO.some_of (v := v) (o := mA n) (by rw [← l]; exact hr n)
  exact HandSPX.exc_get I1.kIn J xc.ga xc.gg xc.sb (PySem.W.findObj_own xc.hd hno rfl (by rw [hl, hu])) (handed_of ru) ⟨v, H1, I1.tok _, ru, q⟩
end

/-! ### made -/
theorem RoomG.make {k : Nat} {A : Around} (h : RoomG (k + 1) A) (C : Addr) (us : List Value) (kw : List (Str × Value)) : RoomG k (A.under (.builtin "type.__call__" ⟨.ref C :: us, kw⟩)) := ⟨h.r.make C us kw, h.g⟩
/-- what an own __init__ that stores two fields promises -/
def spIni (C : Addr) (f g : Str) : Sp := fun vs H Q _ => ∃ (a : Addr) (x y : V), vs = [.ref a, x, y] ∧ H a = some (exo a C none) ∧ ∀ d, H d = none → d ≠ a → Q .non (upd (upd (upd H d (exd d [(f, x)])) a (exo a C (some d))) d (exd d [(g, y), (f, x)]))
section
variable {X : Cx} {C fI : Addr} {k : Nat} {fd : FuncData} {ps : List Str} {f g : Str}
theorem upd3 {H : Hp} {a d : Addr} {o1 o2 o3 o4 : HO} (n : d ≠ a) : upd (upd (upd (upd H a o1) d o2) a o3) d o4 = upd (upd H d o4) a o3 := by
  funext b
  by_cases h1 : b = d
  · subst h1
    rw [upd_same, upd_ne n, upd_same]
  · by_cases h2 : b = a
    · subst h2
      rw [upd_ne h1, upd_same, upd_same]
    · rw [upd_ne h1, upd_ne h2, upd_ne h1, upd_ne h2, upd_ne h2, upd_ne h1]
/-- C(..) as a value: a new object and its dict -/
theorem run_ini {pins : List (Addr × Obj)} {σ : L2.St} {H : Hp} {s : Shared} {Q : VK} {us bs : List Value} {kw : List (Str × Value)} {x y : V} {CX : CXT} (T : XCI X.K C fI) (F1 : FnOk X.prog X.w X.K X.mg X.base CX k fI fd ps (spIni C f g)) (hr : Room (k + 1) X.A)
    (hx : Passes CX X (fun _ _ _ => False)) (hus : us.length ≤ sizeLine) (hb : ∀ s a, X.K.In s.heap → BindsTo s fd ⟨.ref a :: us, kw⟩ (ps.zip (.ref a :: bs))) (I : Inv X pins σ H s) (r : Vals [x, y] bs)
    (h : ∀ a d, H d = none → H a = none → d ≠ a → Q (.ref a) (upd (upd H d (exd d [(g, y), (f, x)])) a (exo a C (some d)))) : wpAny (model X.prog X.w) X.A (call (.ref C) us kw) (EP X pins σ Q) X.xe s := by
  obtain ⟨nm, q, N, bs', bm, sn, sub, ab, col, dd, k0, k1, k2, k3, k5, hC, hbm⟩ := T.ox.cls
  obtain ⟨hp, g', dr, tk, os⟩ := s
  have hsz : hp.objs.size ≤ hp.objs.size + 1 := Nat.le_succ _
  have hn : H (hp.objs.size + 1) = none := I.hok.fresh hsz
  have kk : ∀ b o, hp.get? b = some o → ((hp.push (PySem.W.kdv_tup us)).push (PySem.HandSPX.excO C hp.objs.size)).get? b = some o := fun b o e => Heap.get?_push_of_some _ (Heap.get?_push_of_some _ e)
  have hget : ((hp.push (PySem.W.kdv_tup us)).push (PySem.HandSPX.excO C hp.objs.size)).get? (hp.objs.size + 1) = some (PySem.HandSPX.excO C hp.objs.size) := by heap_get
  have I2 : Inv X pins σ (upd H (hp.objs.size + 1) (exo (hp.objs.size + 1) C none)) ⟨(hp.push (PySem.W.kdv_tup us)).push (PySem.HandSPX.excO C hp.objs.size), g', dr, tk, os⟩ :=
    I.laid (t' := tk) (a := hp.objs.size + 1) (o := exo (hp.objs.size + 1) C none) (h' := (hp.push (PySem.W.kdv_tup us)).push (PySem.HandSPX.excO C hp.objs.size)) kk hsz (L2.exo_ok hget)
  have r2 : Vals [V.ref (hp.objs.size + 1), x, y] (Value.ref (hp.objs.size + 1) :: bs) := .cons rfl r
  refine wpAny_call (kw_own F.excBase_ValueError (fun Y => PySem.HandSPX.refsVE_contains Y bm hbm) (I.kIn _ _ hC) (PySem.W.looks_findIn I.kIn T.iC) (fun self => PySem.W.bind_fn I.kIn self T.tI) hus
    (codeAny_mono (F1.run _ X.stack _ _ ⟨Value.ref (hp.objs.size + 1) :: us, kw⟩ (Value.ref (hp.objs.size + 1) :: bs) _ (fun v H2 => v = .non ∧ Q (.ref (hp.objs.size + 1)) H2) (fun _ _ _ => False) (hr.make C us kw) (I2.env0.make C us kw) (hb _ _ I2.kIn) r2
      ⟨_, x, y, rfl, upd_same, fun d hd nd => ⟨rfl, ?_⟩⟩) fun r s' hq' => ?_))
  · rw [upd3 nd]
    rw [upd_ne nd] at hd
    exact h _ _ hd hn nd
  cases r with
  | error er => exact hx pins σ _ _ er s' I2 hq'
  | ok fl =>
    cases fl with
    | ret u =>
      obtain ⟨v, H', I3, rv, ⟨ev, q3⟩⟩ := I2.after hq'
      subst ev
      exact ⟨rv, V.ref (hp.objs.size + 1), H', I3, rfl, q3⟩
    | next => exact False.elim hq'
    | brk => exact False.elim hq'
    | cont => exact False.elim hq'
end
/-! ### raised -/
theorem XC.rs {X : Cx} {C : Addr} (x : XC X.K C) : Raises X (.ref C) := raises_own x.sb x.ty
section
variable {X : Cx} {C fI : Addr} {k : Nat} {fd : FuncData} {ps : List Str} {f g x : Str} {e : Expr} {es : List Expr} {t : TA} {p pos : Pos}
/-- X(e, ..) to be raised, no __init__ of its own -/
theorem pmk_x0 (T : XC0 X.K C) (gC : X.mg x = some (.ref C)) (hg : Gl X x) (ha : PA X (e :: es) t) (hdb : (x == ("__debug__" : Str)) = false := by decide)
    (he : starEach (e :: es) X.env = (false, eval e X.env) :: starEach es X.env := by rfl) (hpl : (backTo pos (starEach es X.env)).any (·.1) = false := by rfl) :
    L2N.PMk X (.Call (.Name x p) (e :: es) [] pos) (fun σ H Q => t σ H fun vs H1 => vs.length ≤ sizeLine ∧ Q (.ref C) none H1) := by
  intro pins s σ H Q I h
  refine wpAny_Call_Name_kw (ld_glob I hg gC ?_ hdb)
  refine PySem.W.callWith_K (h₀ := X.base) I.ok.mod.kin T.kp (thn (ha.run pos pins s σ H _ I h) fun us s1 ⟨vs, H1, I1, r1, hz, q1⟩ => ⟨I1.kIn, ?_⟩) he hpl
  show wpAny _ _ (call (.ref C) us) _ _ _
  obtain ⟨bm, N, nm, qn, bs, hdct, sn, sub, ab, col, dd, k0, k1, k2, k3, k5, mN, hC, hN, hni, tl⟩ := exc_obj I1.kIn T.ex
  refine wpAny_call_exc_subT F.excBase_ValueError tl hC hN hni (fun h' a hm => ?_) (by rw [← r1.length]; exact hz)
  exact L2N.mk_of I1 hm T.rs q1 (I1.hok.gone hm.new)
/-- X(e, ..) as a value -/
theorem pe_x0 (T : XC0 X.K C) (gC : X.mg x = some (.ref C)) (hg : Gl X x) (ha : PA X (e :: es) t) (hdb : (x == ("__debug__" : Str)) = false := by decide)
    (he : starEach (e :: es) X.env = (false, eval e X.env) :: starEach es X.env := by rfl) (hpl : (backTo pos (starEach es X.env)).any (·.1) = false := by rfl) :
    PE X (.Call (.Name x p) (e :: es) [] pos) (fun σ H Q => t σ H fun vs H1 => vs.length ≤ sizeLine ∧ ∀ a, H1 a = none → Q (.ref a) (upd H1 a (ExO (.ref C) a))) := by
  refine ⟨fun pins s σ H Q I h => ?_⟩
  refine wpAny_Call_Name_kw (ld_glob I hg gC ?_ hdb)
  refine PySem.W.callWith_K (h₀ := X.base) I.ok.mod.kin T.kp (thn (ha.run pos pins s σ H _ I h) fun us s1 ⟨vs, H1, I1, r1, hz, q1⟩ => ⟨I1.kIn, ?_⟩) he hpl
  show wpAny _ _ (call (.ref C) us) _ _ _
  obtain ⟨bm, N, nm, qn, bs, hdct, sn, sub, ab, col, dd, k0, k1, k2, k3, k5, mN, hC, hN, hni, tl⟩ := exc_obj I1.kIn T.ex
  refine wpAny_call_exc_subT F.excBase_ValueError tl hC hN hni (fun h' a hm => ?_) (by rw [← r1.length]; exact hz)
  have hn : H1 a = none := I1.hok.gone hm.new
  obtain ⟨tt, ht, _, _⟩ := hm.there
  exact ⟨.ref a, upd H1 a (ExO (.ref C) a), I1.laidN hm.keeps hm.new hn (L2.exO_ok ht ⟨rfl, rfl⟩ rfl rfl rfl (show 4 < 6 by decide)), rfl, q1 a hn⟩
/-- C(x, y) with its own __init__, as a value -/
theorem pe_xi {CX : CXT} (T : XCI X.K C fI) (F1 : FnOk X.prog X.w X.K X.mg X.base CX k fI fd ps (spIni C f g)) (hr : Room (k + 1) X.A) (hx : Passes CX X (fun _ _ _ => False)) (hb : Binds X.K fd ps []) (hl : ps.length = 3)
    (gC : X.mg x = some (.ref C)) (hg : Gl X x) (ha : PA X (e :: es) t) (hdb : (x == ("__debug__" : Str)) = false := by decide)
    (he : starEach (e :: es) X.env = (false, eval e X.env) :: starEach es X.env := by rfl) (hpl : (backTo pos (starEach es X.env)).any (·.1) = false := by rfl) :
    PE X (.Call (.Name x p) (e :: es) [] pos) (fun σ H Q => t σ H fun vs H1 => ∃ y z, vs = [y, z] ∧ ∀ a d, H1 d = none → H1 a = none → d ≠ a → Q (.ref a) (upd (upd H1 d (exd d [(g, z), (f, y)])) a (exo a C (some d)))) := by
  refine ⟨fun pins s σ H Q I h => ?_⟩
  refine wpAny_Call_Name_kw (ld_glob I hg gC ?_ hdb)
  refine PySem.W.callWith_K (h₀ := X.base) I.ok.mod.kin T.kp (thn (ha.run pos pins s σ H _ I h) fun us s1 ⟨vs, H1, I1, r1, y, z, ev, q1⟩ => ⟨I1.kIn, ?_⟩) he hpl
  subst ev
  have hus : us.length = 2 := r1.length.symm
  refine run_ini T F1 hr hx (by show us.length ≤ _; rw [hus, sizeLine_eq]; omega) (fun s a KX => ?_) I1 r1 q1
  have b2 := hb s (.ref a :: us) KX (by rw [List.append_nil, List.length_cons, hus, hl])
  rw [List.append_nil] at b2
  exact b2
/-- .. by keywords alone -/
theorem pe_xik {CX : CXT} {kws : List Keyword} {ks : List Str} {gV : List V → List V → List V} {gU : List Value → List Value → List Value} {tlV : List V → List V} {tlU : List Value → List Value} (T : XCI X.K C fI) (F1 : FnOk X.prog X.w X.K X.mg X.base CX k fI fd ps (spIni C f g)) (hr : Room (k + 1) X.A)
    (hx : Passes CX X (fun _ _ _ => False)) (hl : ps.length = 3) (hb : KBinds X.K fd ps ks gU gV) (gC : X.mg x = some (.ref C)) (hg : Gl X x) (hkw : PK X kws t) (hgu : ∀ a ws, gU [a] ws = a :: tlU ws) (hgv : ∀ a ws, gV [a] ws = a :: tlV ws)
    (hall : (backToKw pos (keywordEach kws X.env)).all (·.1.isSome) = true := by rfl) (hks : (backToKw pos (keywordEach kws X.env)).filterMap (·.1) = ks := by rfl) (hdb : (x == ("__debug__" : Str)) = false := by decide)
    (hpl : ((backTo pos (starEach [] X.env)).any (·.1) || (backToKw pos (keywordEach kws X.env)).any (·.1.isNone)) = false := by rfl) :
    PE X (.Call (.Name x p) [] kws pos) (fun σ H Q => t σ H fun vs H1 => ∃ y z, tlV vs = [y, z] ∧ ∀ a d, H1 d = none → H1 a = none → d ≠ a → Q (.ref a) (upd (upd H1 d (exd d [(g, z), (f, y)])) a (exo a C (some d)))) := by
  refine ⟨fun pins s σ H Q I h => ?_⟩
  refine wpAny_Call_Name_kw (ld_glob I hg gC ?_ hdb)
  refine PySem.W.callWith_KW0 (h₀ := X.base) I.ok.mod.kin T.kp hall (thn (hkw.run pos pins s σ H _ I h) fun ws s1 ⟨vs, H1, I1, r1, y, z, ev, q1⟩ => ⟨I1.kIn, ?_⟩) hpl
  rw [hks]
  have rr : Vals [y, z] (tlU ws) := by
    have q := hb.rel (vs := [.non]) (us := [.none]) (.cons rfl .nil) r1
    rw [hgu, hgv, ev] at q
    cases q with
    | cons _ q => exact q
  refine run_ini T F1 hr hx (by show 0 ≤ _; exact Nat.zero_le _) (fun s a KX => ?_) I1 rr q1
  have b2 := hb.to s [.ref a] ws KX (by rw [hgu, List.length_cons, hl, ← rr.length]; rfl)
  rw [hgu] at b2
  exact b2
/-- C(x, y) to be raised -/
theorem pmk_xi {CX : CXT} (T : XCI X.K C fI) (F1 : FnOk X.prog X.w X.K X.mg X.base CX k fI fd ps (spIni C f g)) (hr : Room (k + 1) X.A) (hx : Passes CX X (fun _ _ _ => False)) (hb : Binds X.K fd ps []) (hl3 : ps.length = 3)
    (gC : X.mg x = some (.ref C)) (hg : Gl X x) (ha : PA X (e :: es) t) (hdb : (x == ("__debug__" : Str)) = false := by decide)
    (he : starEach (e :: es) X.env = (false, eval e X.env) :: starEach es X.env := by rfl) (hpl : (backTo pos (starEach es X.env)).any (·.1) = false := by rfl) :
    L2N.PMk X (.Call (.Name x p) (e :: es) [] pos) (fun σ H Q => t σ H fun vs H1 => ∃ y z, vs = [y, z] ∧ ∀ d, H1 d = none → Q (.ref C) (some d) (upd H1 d (.xd [(g, z), (f, y)]))) := by
  intro pins s σ H Q I h
  obtain ⟨nm, q, N, bs', bm, sn, sub, ab, col, dd, k0, k1, k2, k3, k5, hC, hbm⟩ := T.ox.cls
  refine wpAny_Call_Name_kw (ld_glob I hg gC ?_ hdb)
  refine PySem.W.callWith_K (h₀ := X.base) I.ok.mod.kin T.kp (thn (ha.run pos pins s σ H _ I h) fun us s1 ⟨vs, H1, I1, r1, y, z, ev, q1⟩ => ⟨I1.kIn, ?_⟩) he hpl
  subst ev
  have hus : us.length = 2 := r1.length.symm
  show wpAny _ _ (call (.ref C) us) _ _ _
  obtain ⟨hp, g', dr, tk, os⟩ := s1
  have hsz : hp.objs.size ≤ hp.objs.size + 1 := Nat.le_succ _
  have hn : H1 (hp.objs.size + 1) = none := I1.hok.fresh hsz
  have kk : ∀ b o, hp.get? b = some o → ((hp.push (PySem.W.kdv_tup us)).push (PySem.HandSPX.excO C hp.objs.size)).get? b = some o := fun b o e => Heap.get?_push_of_some _ (Heap.get?_push_of_some _ e)
  have hget : ((hp.push (PySem.W.kdv_tup us)).push (PySem.HandSPX.excO C hp.objs.size)).get? (hp.objs.size + 1) = some (PySem.HandSPX.excO C hp.objs.size) := by heap_get
  have I2 : Inv X pins σ (upd H1 (hp.objs.size + 1) (exo (hp.objs.size + 1) C none)) ⟨(hp.push (PySem.W.kdv_tup us)).push (PySem.HandSPX.excO C hp.objs.size), g', dr, tk, os⟩ :=
    I1.laid (t' := tk) (a := hp.objs.size + 1) (o := exo (hp.objs.size + 1) C none) (h' := (hp.push (PySem.W.kdv_tup us)).push (PySem.HandSPX.excO C hp.objs.size)) kk hsz (L2.exo_ok hget)
  have r2 : Vals [V.ref (hp.objs.size + 1), y, z] (Value.ref (hp.objs.size + 1) :: us) := .cons rfl r1
  have b2 := hb ⟨(hp.push (PySem.W.kdv_tup us)).push (PySem.HandSPX.excO C hp.objs.size), g', dr, tk, os⟩ (.ref (hp.objs.size + 1) :: us) I2.kIn (by rw [List.append_nil, List.length_cons, hus, hl3])
  rw [List.append_nil] at b2
  refine wpAny_call (kw_own F.excBase_ValueError (fun Y => PySem.HandSPX.refsVE_contains Y bm hbm) (I1.kIn _ _ hC) (PySem.W.looks_findIn I1.kIn T.iC) (fun self => PySem.W.bind_fn I1.kIn self T.tI) (by rw [hus, sizeLine_eq]; omega)
    (codeAny_mono (F1.run _ X.stack _ _ ⟨Value.ref (hp.objs.size + 1) :: us, []⟩ (Value.ref (hp.objs.size + 1) :: us) _
      (fun v H2 => v = .non ∧ ∃ d, H1 d = none ∧ d ≠ hp.objs.size + 1 ∧ H2 = upd (upd H1 d (exd d [(g, z), (f, y)])) (hp.objs.size + 1) (exo (hp.objs.size + 1) C (some d))) (fun _ _ _ => False) (hr.make C us []) (I2.env0.make C us []) b2 r2
      ⟨_, y, z, rfl, upd_same, fun d hd nd => ⟨rfl, d, by rw [upd_ne nd] at hd; exact hd, nd, upd3 nd⟩⟩) fun r s' hq' => ?_))
  cases r with
  | error er => exact hx pins σ _ _ er s' I2 hq'
  | ok fl =>
    cases fl with
    | ret u =>
      obtain ⟨v, H2, os2, bare2, un2, hok2, rv, ev, d, hd1, nd, eH⟩ := hq'
      subst ev
      obtain ⟨h2, g2, d2, t2, os'⟩ := s'
      have ea : H2 (hp.objs.size + 1) = some (exo (hp.objs.size + 1) C (some d)) := by rw [eH, upd_same]
      have ed : H2 d = some (exd d [(g, z), (f, y)]) := by rw [eH, upd_ne nd, upd_same]
      obtain ⟨t0, G, J, kG, ge, hoe, na⟩ := mk_end0 (d2 := d2) (t2 := t2) I1 hsz kk un2 hok2 os2 bare2 ea ed hd1
      have eq : upd (del H2 (hp.objs.size + 1)) d (.xd [(g, z), (f, y)]) = upd H1 d (.xd [(g, z), (f, y)]) := by
        funext b
        by_cases h1 : b = d
        · rw [h1, upd_same, upd_same]
        · rw [upd_ne h1, upd_ne h1]
          by_cases h2 : b = hp.objs.size + 1
          · rw [h2, del_same, hn]
          · rw [del_ne h2, eH, upd_ne h2, upd_ne h1]
      rw [eq] at J na
      refine ⟨rv, hp.objs.size + 1, _, _, ⟨G, g2, d2, t2, os'⟩, _, .ref C, some d, rfl, J, kG, ge, hoe, ⟨rfl, rfl, fun vs hv => ?_⟩, rfl, rfl, na, rfl, bare2, T.rs, q1 d hd1⟩
      cases hv
      rfl
    | next => exact False.elim hq'
    | brk => exact False.elim hq'
    | cont => exact False.elim hq'
end
/-! ### over the data: values -/
section
variable {K : PySem.W.Frag} {F F' H H' : Hp} {θ θ' : List Addr} {O : Sto}
theorem lookC {α : Type} (f g : Str) (y : α) (fs : List (Str × α)) : ((f, y) :: fs).lookup g = if g = f then some y else fs.lookup g := by
  by_cases h : g = f
  · subst h
    simp [List.lookup]
  · have e : (g == f) = false := by simpa using h
    simp [List.lookup, h, e]
theorem FsR.look {vs : List (Str × V)} {fs : List (Str × W)} (h : FsR K F θ vs fs) {n : Str} {w : W} (e : fs.lookup n = some w) : ∃ v, vs.lookup n = some v ∧ RW K F θ v w := by
  induction h with
  | nil => cases e
  | @cons p q vs fs r _ ih =>
    obtain ⟨n1, v1⟩ := p
    obtain ⟨n2, w2⟩ := q
    obtain ⟨en, r⟩ := r
    dsimp only at en r
    subst en
    rw [lookC] at e ⊢
    by_cases h : n = n1
    · rw [if_pos h] at e ⊢
      cases e
      exact ⟨v1, rfl, r⟩
    · rw [if_neg h] at e ⊢
      exact ih e
theorem Jn.newX0 (j : Jn K F H θ O) {p C : Addr} (h : H p = none) : Jn K F (L2.upd H p (ExO (.ref C) p)) (θ ++ [p]) (O ++ [.exc C]) := j.newC h ⟨j.freeF h, upd_same⟩
theorem Jn.newXd (j : Jn K F H θ O) {p : Addr} {vs : List (Str × V)} {fs : List (Str × W)} (h : H p = none) (r : FsR K F θ vs fs) : Jn K F (L2.upd H p (.xd vs)) (θ ++ [p]) (O ++ [.xd fs]) := j.newC h ⟨j.freeF h, vs, upd_same, r.mono Gr.push⟩
theorem Jn.newXi (j : Jn K F H θ O) {a d C : Addr} {vs : List (Str × V)} {fs : List (Str × W)} (ha : H a = none) (hd : H d = none) (n : d ≠ a) (r : FsR K F θ vs fs) :
    Jn K F (L2.upd (L2.upd H d (exd d vs)) a (exo a C (some d))) (θ ++ [d] ++ [a]) (O ++ [.exf fs] ++ [.exr C O.length]) := by
  have j1 : Jn K F (L2.upd H d (exd d vs)) (θ ++ [d]) (O ++ [.exf fs]) := j.newC hd ⟨j.freeF hd, vs, upd_same, r.mono Gr.push⟩
  refine j1.newC (by rw [upd_ne (Ne.symm n)]; exact ha) ⟨j1.freeF (by rw [upd_ne (Ne.symm n)]; exact ha), d, ?_, upd_same⟩
  rw [← j.len]
  simp
end
def clsV : W → Option Value
  | .ref a => some (.ref a)
  | .ty n => some (.type n)
  | _ => none
theorem clsV_ok {K : PySem.W.Frag} {F : Hp} {θ : List Addr} {v : V} {w : W} {cv : Value} (r : RW K F θ v w) (h : clsV w = some cv) : ∀ u, RelV v u → u = cv := by
  cases w <;> (first | (exfalso; revert h; simp [clsV]; done) | skip)
  · cases r
    cases h
    exact fun u e => e
  · cases r
    cases h
    exact fun u e => e
/-- an exception that the program holds: its class -/
def XcAt (O : Sto) (k : Nat) (D : Addr) : Prop := O[k]? = some (.exc D) ∨ ∃ j fs, O[k]? = some (.exr D j) ∧ O[j]? = some (.exf fs)
theorem XcAt.ok {K : PySem.W.Frag} {F H : Hp} {θ : List Addr} {O : Sto} {k : Nat} {D a : Addr} (h : XcAt O k D) (j : Jn K F H θ O) (ha : θ[k]? = some a) : H a = some (ExO (.ref D) a) ∨ ∃ d fs, H a = some (exo a D (some d)) ∧ H d = some (exd d fs) := by
  rcases h with h | ⟨i, fs, h1, h2⟩
  · exact .inl (show F a = none ∧ H a = some (ExO (.ref D) a) from j.ok k a _ ha h).2
  · obtain ⟨_, d, hd, e⟩ := (show F a = none ∧ ∃ d, θ[i]? = some d ∧ H a = some (exo a D (some d)) from j.ok k a _ ha h1)
    obtain ⟨_, vs, e2, _⟩ := (show F d = none ∧ ∃ vs, H d = some (exd d vs) ∧ FsR K F θ vs fs from j.ok i d _ hd h2)
    exact .inr ⟨d, vs, e, e2⟩
def rdIsO (K : PySem.W.Frag) : RCD := fun ws O S => ∃ k D c cv b, ws = [.cell k, c] ∧ XcAt O k D ∧ XC K D ∧ clsV c = some cv ∧ PySem.W.kitOne K (.ref D) cv = some b ∧ S (.bl b) O
theorem src_isO {K : PySem.W.Frag} : SRC K (rIsO K) (rdIsO K) := by
  intro F H θ O vs ws S j r q Q k
  obtain ⟨i, D, c, cv, b, rfl, hx, xc, hc, e, q⟩ := q
  obtain ⟨v, u, rfl, rv, ru⟩ := r.two_inv
  obtain ⟨a, rfl, ha⟩ := rv.cell_inv
  exact ⟨a, D, u, cv, b, rfl, hx.ok j ha, xc, clsV_ok ru hc, e, k _ _ F H θ O Gr.refl j (.bl b) q⟩
/-- of the exception that a suite holds -/
def rdIsC (K : PySem.W.Frag) (a : Addr) (cls : Value) (d : Option Addr) : RCD := fun ws O S => ∃ D dk c cv b, cls = .ref D ∧ ws = [.xr a d dk, c] ∧ (dk = none ∨ ∃ j fs, dk = some j ∧ O[j]? = some (.xd fs)) ∧ XC K D ∧ clsV c = some cv ∧ PySem.W.kitOne K (.ref D) cv = some b ∧ S (.bl b) O
def rIsD (K : PySem.W.Frag) (a : Addr) (cls : Value) (d : Option Addr) : List V → Hp → VK → Prop := fun xs H Q => ∃ (D : Addr) (c : V) (cv : Value) (b : Bool), cls = .ref D ∧ xs = [.ref a, c] ∧ (d = none ∨ ∃ dd fs, d = some dd ∧ H dd = some (.xd fs)) ∧ XC K D ∧ (∀ u, RelV c u → u = cv) ∧ PySem.W.kitOne K (.ref D) cv = some b ∧ Q (.bl b) H
theorem call_isD {X : Cx} {a : Addr} {cls : Value} {d : Option Addr} {oe : Obj} {pn : List (Addr × Obj)} (hz : Zc cls d oe) (hf : ∃ vs, oe.data = .fields vs) : CallR (X.suite a ((a, oe) :: pn)) (.builtin "isinstance") (rIsD X.K a cls d) := by
  intro pins s σ H xs us Q I r h
  obtain ⟨D, c, cv, b, rfl, rfl, ho, C, hcv, e, q⟩ := h
  cases r with
  | cons rx rr =>
    cases rr with
    | cons rt rr =>
      cases rr
      cases rx
      have ec := hcv _ rt
      subst ec
      obtain ⟨hget, _⟩ := I.pin (a, oe) (List.mem_append.mpr (.inl List.mem_cons_self))
      obtain ⟨vs, hv⟩ := hf
      obtain ⟨oc, od, oda, osl⟩ := oe
      obtain ⟨h1, h2⟩ := hz
      dsimp only at h1 h2 hv
      subst h1 h2 hv
      have J : ∃ ox od', PySem.W.InstAt s.heap a ox D od' := by
        rcases ho with rfl | ⟨dd, fs, rfl, h3⟩
        · exact ⟨_, none, hget, rfl, rfl, trivial⟩
        · obtain ⟨mA, hns, hr⟩ := (show ∃ mA, s.heap.Ns1 dd mA ∧ ∀ f, RelO (fs.lookup f) (mA f) from I.hok dd _ h3)
          obtain ⟨od', hod, _⟩ := lookIn_ns hns
          exact ⟨_, some od', hget, rfl, rfl, hod⟩
      obtain ⟨ox, od', J⟩ := J
      exact PySem.W.kia_one (PySem.W.kitx_exc (ox := ox) (od := od') C.cl C.ga C.gg C.sb C.ca C.sp C.tk C.mr) I.kIn J e (fun z => nomatch z) fun tk => ⟨.bl b, H, I.kept (t' := tk) fun _ _ z => z, rfl, q⟩
theorem src_isD {K : PySem.W.Frag} {a : Addr} {cls : Value} {d : Option Addr} : SRC K (rIsD K a cls d) (rdIsC K a cls d) := by
  intro F H θ O vs ws S j r q Q k
  obtain ⟨D, dk, c, cv, b, hcl, rfl, hx, xc, hc, e, q⟩ := q
  obtain ⟨v, u, rfl, rv, ru⟩ := r.two_inv
  cases rv with
  | xr hd =>
    refine ⟨D, u, cv, b, hcl, rfl, ?_, xc, clsV_ok ru hc, e, k _ _ F H θ O Gr.refl j (.bl b) q⟩
    rcases hx with rfl | ⟨i, fs, rfl, hx⟩
    · cases d with
      | none => exact .inl rfl
      | some z => exact hd.elim
    · cases d with
      | none => exact hd.elim
      | some z =>
        obtain ⟨_, vs, e2, _⟩ := (show F z = none ∧ ∃ vs, H z = some (.xd vs) ∧ FsR K F θ vs fs from j.ok i z _ hd hx)
        exact .inr ⟨z, vs, rfl, e2⟩
/-- o.n of an exception that the program holds -/
def dXo (K : PySem.W.Frag) (n : Str) (we : DE) : DE := fun δ O S => we δ O fun w O1 => ∃ k j C fs v, w = .cell k ∧ O1[k]? = some (.exr C j) ∧ O1[j]? = some (.exf fs) ∧ XC K C ∧ PySem.W.findIn K (.ref C) n = some none ∧ fs.lookup n = some v ∧ S v O1
/-- .. of the one that a suite holds -/
def dXf (K : PySem.W.Frag) (a : Addr) (cls : Value) (d : Option Addr) (C : Addr) (n : Str) (we : DE) : DE := fun δ O S => we δ O fun w O1 => ∃ j fs v, w = .xr a d (some j) ∧ cls = .ref C ∧ O1[j]? = some (.xd fs) ∧ fs.lookup n = some v ∧ S v O1
section
variable {X : Cx} {e : Expr} {es : List Expr} {we : DE} {wa : DA} {n x f g : Str} {p pos : Pos} {C fI : Addr} {k : Nat} {fd : FuncData} {ps : List Str}
theorem ed_xo (h : ED X e we) (hb : attributeBase e n X.env (eval e X.env) = eval e X.env := by rfl) : ED X (.Attribute e n pos) (dXo X.K n we) := by
  obtain ⟨t, p, s⟩ := h.ex
  refine ⟨_, pe_xo p hb, fun F H θ O σ δ S j s' q Q kk => ?_⟩
  refine s F H θ O σ δ _ j s' q _ fun v w F1 H1 θ1 O1 g1 j1 r1 q1 => ?_
  obtain ⟨k, i, C, fs, z, rfl, h1, h2, xc, hno, hl, q1⟩ := q1
  obtain ⟨a, rfl, ha⟩ := r1.cell_inv
  obtain ⟨_, d, hd, ea⟩ := (show F1 a = none ∧ ∃ d, θ1[i]? = some d ∧ H1 a = some (exo a C (some d)) from j1.ok k a _ ha h1)
  obtain ⟨_, vs, ed, fr⟩ := (show F1 d = none ∧ ∃ vs, H1 d = some (exd d vs) ∧ FsR X.K F1 θ1 vs fs from j1.ok i d _ hd h2)
  obtain ⟨y, hy, ry⟩ := fr.look hl
  exact ⟨a, C, d, vs, y, rfl, xc, hno, ea, ed, hy, kk _ _ F1 H1 θ1 O1 g1 j1 ry q1⟩
theorem ed_xf {a : Addr} {cls : Value} {d : Option Addr} {oe : Obj} {pn : List (Addr × Obj)} (T : XC X.K C) (hno : PySem.W.findIn X.K (.ref C) n = some none) (hz : Zc cls d oe) (hf : ∃ vs, oe.data = .fields vs)
    (h : ED (X.suite a ((a, oe) :: pn)) e we) (hb : attributeBase e n X.env (eval e X.env) = eval e X.env := by rfl) : ED (X.suite a ((a, oe) :: pn)) (.Attribute e n pos) (dXf X.K a cls d C n we) := by
  obtain ⟨t, p, s⟩ := h.ex
  refine ⟨_, pe_xf ⟨T.ga, T.gg, T.sb, T.hd⟩ hno hz hf p hb, fun F H θ O σ δ S j s' q Q kk => ?_⟩
  refine s F H θ O σ δ _ j s' q _ fun v w F1 H1 θ1 O1 g1 j1 r1 q1 => ?_
  obtain ⟨i, fs, z, rfl, hc, h1, hl, q1⟩ := q1
  cases r1 with
  | xr hd =>
    cases d with
    | none => exact hd.elim
    | some dd =>
      obtain ⟨_, vs, e2, fr⟩ := (show F1 dd = none ∧ ∃ vs, H1 dd = some (.xd vs) ∧ FsR X.K F1 θ1 vs fs from j1.ok i dd _ hd h1)
      obtain ⟨y, hy, ry⟩ := fr.look hl
      exact ⟨rfl, hc, dd, vs, y, rfl, e2, hy, kk _ _ F1 H1 θ1 O1 g1 j1 ry q1⟩
def dX0 (C : Addr) (wa : DA) : DE := fun δ O S => wa δ O fun ws O1 => ws.length ≤ sizeLine ∧ S (.cell O1.length) (O1 ++ [.exc C])
theorem ed_x0 (T : XC0 X.K C) (gC : X.mg x = some (.ref C)) (hg : Gl X x) (ha : EDA X (e :: es) wa) (hdb : (x == ("__debug__" : Str)) = false := by decide)
    (he : starEach (e :: es) X.env = (false, eval e X.env) :: starEach es X.env := by rfl) (hpl : (backTo pos (starEach es X.env)).any (·.1) = false := by rfl) : ED X (.Call (.Name x p) (e :: es) [] pos) (dX0 C wa) := by
  obtain ⟨t, p, s⟩ := ha.ex
  refine ⟨_, pe_x0 T gC hg p hdb he hpl, fun F H θ O σ δ S j s' q Q kk => ?_⟩
  refine s F H θ O σ δ _ j s' q _ fun vs ws F1 H1 θ1 O1 g1 j1 r1 q1 => ⟨by rw [r1.length]; exact q1.1, fun a ha => ?_⟩
  exact kk _ _ _ _ _ _ (g1.trans Gr.push) (j1.newX0 ha) (.cell (by rw [← j1.len]; simp)) q1.2
def dXi (C : Addr) (f g : Str) (wa : DA) : DE := fun δ O S => wa δ O fun ws O1 => ∃ y z, ws = [y, z] ∧ S (.cell (O1.length + 1)) (O1 ++ [.exf [(g, z), (f, y)]] ++ [.exr C O1.length])
theorem fsR2 {K : PySem.W.Frag} {F : Hp} {θ : List Addr} {y z : V} {yw zw : W} (ry : RW K F θ y yw) (rz : RW K F θ z zw) : FsR K F θ [(g, z), (f, y)] [(g, zw), (f, yw)] := .cons ⟨rfl, rz⟩ (.cons ⟨rfl, ry⟩ .nil)
theorem ed_xi {CX : CXT} (T : XCI X.K C fI) (F1 : FnOk X.prog X.w X.K X.mg X.base CX k fI fd ps (spIni C f g)) (hr : Room (k + 1) X.A) (hx : Passes CX X (fun _ _ _ => False)) (hb : Binds X.K fd ps []) (hl : ps.length = 3)
    (gC : X.mg x = some (.ref C)) (hg : Gl X x) (ha : EDA X (e :: es) wa) (hdb : (x == ("__debug__" : Str)) = false := by decide)
    (he : starEach (e :: es) X.env = (false, eval e X.env) :: starEach es X.env := by rfl) (hpl : (backTo pos (starEach es X.env)).any (·.1) = false := by rfl) : ED X (.Call (.Name x p) (e :: es) [] pos) (dXi C f g wa) := by
  obtain ⟨t, p, s⟩ := ha.ex
  refine ⟨_, pe_xi T F1 hr hx hb hl gC hg p hdb he hpl, fun F H θ O σ δ S j s' q Q kk => ?_⟩
  refine s F H θ O σ δ _ j s' q _ fun vs ws F1 H1 θ1 O1 g1 j1 r1 q1 => ?_
  obtain ⟨y, z, rfl, q1⟩ := q1
  obtain ⟨yv, zv, rfl, ry, rz⟩ := r1.two_inv
  refine ⟨yv, zv, rfl, fun a d hd ha n => ?_⟩
  refine kk _ _ _ _ _ _ ((g1.trans Gr.push).trans Gr.push) (j1.newXi ha hd n (fsR2 ry rz)) (.cell ?_) q1
  rw [← j1.len]
  simp
def dXik (C : Addr) (f g : Str) (tl : List W → List W) (wa : DA) : DE := fun δ O S => wa δ O fun ws O1 => ∃ y z, tl ws = [y, z] ∧ S (.cell (O1.length + 1)) (O1 ++ [.exf [(g, z), (f, y)]] ++ [.exr C O1.length])
theorem ed_xik {CX : CXT} {kws : List Keyword} {ks : List Str} {gV : List V → List V → List V} {gU : List Value → List Value → List Value} {tlV : List V → List V} {tlU : List Value → List Value} {tlW : List W → List W} (T : XCI X.K C fI) (F1 : FnOk X.prog X.w X.K X.mg X.base CX k fI fd ps (spIni C f g)) (hr : Room (k + 1) X.A)
    (hx : Passes CX X (fun _ _ _ => False)) (hl : ps.length = 3) (hb : KBinds X.K fd ps ks gU gV) (gC : X.mg x = some (.ref C)) (hg : Gl X x) (hkw : EDK X kws wa) (hgu : ∀ a ws, gU [a] ws = a :: tlU ws) (hgv : ∀ a ws, gV [a] ws = a :: tlV ws)
    (htl : ∀ F θ vs ws y z, RWs X.K F θ vs ws → tlW ws = [y, z] → ∃ yv zv, tlV vs = [yv, zv] ∧ RW X.K F θ yv y ∧ RW X.K F θ zv z)
    (hall : (backToKw pos (keywordEach kws X.env)).all (·.1.isSome) = true := by rfl) (hks : (backToKw pos (keywordEach kws X.env)).filterMap (·.1) = ks := by rfl) (hdb : (x == ("__debug__" : Str)) = false := by decide)
    (hpl : ((backTo pos (starEach [] X.env)).any (·.1) || (backToKw pos (keywordEach kws X.env)).any (·.1.isNone)) = false := by rfl) :
    ED X (.Call (.Name x p) [] kws pos) (dXik C f g tlW wa) := by
  obtain ⟨t, p, s⟩ := hkw.ex
  refine ⟨_, pe_xik T F1 hr hx hl hb gC hg p hgu hgv hall hks hdb hpl, fun F H θ O σ δ S j s' q Q kk => ?_⟩
  refine s F H θ O σ δ _ j s' q _ fun vs ws F1 H1 θ1 O1 g1 j1 r1 q1 => ?_
  obtain ⟨y, z, ht, q1⟩ := q1
  obtain ⟨yv, zv, e, ry, rz⟩ := htl _ _ _ _ _ _ r1 ht
  refine ⟨yv, zv, e, fun a d hd ha n => ?_⟩
  refine kk _ _ _ _ _ _ ((g1.trans Gr.push).trans Gr.push) (j1.newXi ha hd n (fsR2 ry rz)) (.cell ?_) q1
  rw [← j1.len]
  simp
theorem ed_gref (hg : Gl X x) (hm : X.mg x = some (.ref C)) (hd : (x == ("__debug__" : Str)) = false := by decide) : ED X (.Name x pos) (dC (.ref C)) := ⟨_, pe_glob (v := .ref C) hg hm rfl hd, SE.pure fun _ _ => .ref C⟩
end

/-! ### over the data: statements that may raise -/
structure DEndsX extends DEnds where
  ex : Value → Option Nat → DS → Sto → Prop := fun _ _ _ _ => False
abbrev DTX := DEndsX → DS → Sto → Prop
structure LkX (K : PySem.W.Frag) (F : Hp) (θ : List Addr) (D : DEndsX) (D' : Ends) (W : WX) : Prop extends Lk K F θ D.toDEnds D' where
  ex : ∀ F' H' θ' O' σ δ cls dk d, Gr F θ F' θ' → Jn K F' H' θ' O' → RS K F' θ' σ δ → dkR θ' dk d → D.ex cls dk δ O' → W cls d σ H'
theorem LkX.mono {K : PySem.W.Frag} {F F1 : Hp} {θ θ1 : List Addr} {D : DEndsX} {D' : Ends} {W : WX} (l : LkX K F θ D D' W) (g : Gr F θ F1 θ1) : LkX K F1 θ1 D D' W :=
  ⟨l.toLk.mono g, fun F' H' θ' O' σ δ cls dk d g2 => l.ex F' H' θ' O' σ δ cls dk d (g.trans g2)⟩
def SSX (K : PySem.W.Frag) (W : WX) (ts : TS) (ws : DTX) : Prop := ∀ F H θ O σ δ D D', Jn K F H θ O → RS K F θ σ δ → ws D δ O → LkX K F θ D D' W → ts D' σ H
structure EDX (X : Cx) (W : WX) (st : Stmt) (ws : DTX) : Prop where
  ex : ∃ ts, PS X st ts ∧ SSX X.K W ts ws
structure EDXB (X : Cx) (W : WX) (st : List Stmt) (ws : DTX) : Prop where
  ex : ∃ ts, PSs X st ts ∧ SSX X.K W ts ws
def dxOf (ws : DTS) : DTX := fun D δ O => ws D.toDEnds δ O
def dxSeq (w1 w2 : DTX) : DTX := fun D δ O => w1 { D with nx := w2 D } δ O
def dxIf (wt : DT) (w1 w2 : DTX) : DTX := fun D δ O => wt δ O fun b O1 => if b = true then w1 D δ O1 else w2 D δ O1
abbrev DM := DS → Sto → (Value → Option Nat → Sto → Prop) → Prop
def SM (K : PySem.W.Frag) (t : L2.St → Hp → XK → Prop) (wm : DM) : Prop := ∀ F H θ O σ δ S, Jn K F H θ O → RS K F θ σ δ → wm δ O S → ∀ Q : XK,
  (∀ cls dk d F' H' θ' O', Gr F θ F' θ' → Jn K F' H' θ' O' → dkR θ' dk d → S cls dk O' → Q cls d H') → t σ H Q
structure EDM (X : Cx) (e : Expr) (wm : DM) : Prop where
  ex : ∃ t, L2N.PMk X e t ∧ SM X.K t wm
def dRaise (wm : DM) : DTX := fun D δ O => wm δ O fun cls dk O1 => D.ex cls dk δ O1
def dM0 (C : Addr) (wa : DA) : DM := fun δ O S => wa δ O fun ws O1 => ws.length ≤ sizeLine ∧ S (.ref C) none O1
def dMi (C : Addr) (f g : Str) (wa : DA) : DM := fun δ O S => wa δ O fun ws O1 => ∃ y z, ws = [y, z] ∧ S (.ref C) (some O1.length) (O1 ++ [.xd [(g, z), (f, y)]])
section
variable {X : Cx} {W : WX} {st : Stmt} {rest : List Stmt} {ws : DTS} {w1 w2 : DTX} {wt : DT} {wm : DM} {wa : DA} {c e : Expr} {es : List Expr} {pos p : Pos} {x f g : Str} {C fI : Addr} {k : Nat} {fd : FuncData} {ps : List Str}
theorem es_x (h : EDS X st ws) : EDX X W st (dxOf ws) := by
  obtain ⟨t, p, s⟩ := h.ex
  exact ⟨t, p, fun F H θ O σ δ D D' j s' q l => s F H θ O σ δ _ D' j s' q l.toLk⟩
theorem eb_x (h : EDB X rest ws) : EDXB X W rest (dxOf ws) := by
  obtain ⟨t, p, s⟩ := h.ex
  exact ⟨t, p, fun F H θ O σ δ D D' j s' q l => s F H θ O σ δ _ D' j s' q l.toLk⟩
theorem exb_one (h : EDX X W st w1) : EDXB X W [st] w1 := by
  obtain ⟨t1, p1, s1⟩ := h.ex
  exact ⟨_, pss_one p1, s1⟩
theorem exb_cons (h : EDX X W st w1) (hr : EDXB X W rest w2) : EDXB X W (st :: rest) (dxSeq w1 w2) := by
  obtain ⟨t1, p1, s1⟩ := h.ex
  obtain ⟨t2, p2, s2⟩ := hr.ex
  refine ⟨_, pss_cons p1 p2, fun F H θ O σ δ D D' j s q l => ?_⟩
  exact s1 F H θ O σ δ _ _ j s q ⟨⟨fun F' H' θ' O' σ' δ' g j' s' q' => s2 F' H' θ' O' σ' δ' D D' j' s' q' (l.mono g), l.rt, l.bk, l.ct⟩, l.ex⟩
theorem ex_if {a b : List Stmt} (hc : EDT X c wt) (ha : EDXB X W a w1) (hb : EDXB X W b w2) : EDX X W (.If c a b pos) (dxIf wt w1 w2) := by
  obtain ⟨t0, p0, s0⟩ := hc.ex
  obtain ⟨t1, p1, s1⟩ := ha.ex
  obtain ⟨t2, p2, s2⟩ := hb.ex
  refine ⟨_, ps_if p0 p1 p2, fun F H θ O σ δ D D' j s q l => ?_⟩
  refine s0 F H θ O σ δ _ j s q _ fun b F1 H1 θ1 O1 g1 j1 q1 => ?_
  cases b with
  | true => exact s1 F1 H1 θ1 O1 σ δ D D' j1 (s.mono g1) q1 (l.mono g1)
  | false => exact s2 F1 H1 θ1 O1 σ δ D D' j1 (s.mono g1) q1 (l.mono g1)
theorem ex_raise (hc : X.calm = true) (tk : L2N.Takes X W) (h : EDM X e wm) : EDX X W (.Raise (some e) none pos) (dRaise wm) := by
  obtain ⟨t0, p0, s0⟩ := h.ex
  refine ⟨_, L2N.ps_raise hc tk p0, fun F H θ O σ δ D D' j s q l => ?_⟩
  exact s0 F H θ O σ δ _ j s q _ fun cls dk d F1 H1 θ1 O1 g1 j1 r1 q1 => l.ex F1 H1 θ1 O1 σ δ cls dk d g1 j1 (s.mono g1) r1 q1
theorem em_x0 (T : XC0 X.K C) (gC : X.mg x = some (.ref C)) (hg : Gl X x) (ha : EDA X (e :: es) wa) (hdb : (x == ("__debug__" : Str)) = false := by decide)
    (he : starEach (e :: es) X.env = (false, eval e X.env) :: starEach es X.env := by rfl) (hpl : (backTo pos (starEach es X.env)).any (·.1) = false := by rfl) : EDM X (.Call (.Name x p) (e :: es) [] pos) (dM0 C wa) := by
  obtain ⟨t, p, s⟩ := ha.ex
  refine ⟨_, pmk_x0 T gC hg p hdb he hpl, fun F H θ O σ δ S j s' q Q kk => ?_⟩
  exact s F H θ O σ δ _ j s' q _ fun vs ws F1 H1 θ1 O1 g1 j1 r1 q1 => ⟨by rw [r1.length]; exact q1.1, kk _ none none _ _ _ _ g1 j1 True.intro q1.2⟩
theorem em_xi {CX : CXT} (T : XCI X.K C fI) (F1 : FnOk X.prog X.w X.K X.mg X.base CX k fI fd ps (spIni C f g)) (hr : Room (k + 1) X.A) (hx : Passes CX X (fun _ _ _ => False)) (hb : Binds X.K fd ps []) (hl : ps.length = 3)
    (gC : X.mg x = some (.ref C)) (hg : Gl X x) (ha : EDA X (e :: es) wa) (hdb : (x == ("__debug__" : Str)) = false := by decide)
    (he : starEach (e :: es) X.env = (false, eval e X.env) :: starEach es X.env := by rfl) (hpl : (backTo pos (starEach es X.env)).any (·.1) = false := by rfl) : EDM X (.Call (.Name x p) (e :: es) [] pos) (dMi C f g wa) := by
  obtain ⟨t, p, s⟩ := ha.ex
  refine ⟨_, pmk_xi T F1 hr hx hb hl gC hg p hdb he hpl, fun F H θ O σ δ S j s' q Q kk => ?_⟩
  refine s F H θ O σ δ _ j s' q _ fun vs ws F1 H1 θ1 O1 g1 j1 r1 q1 => ?_
  obtain ⟨y, z, rfl, q1⟩ := q1
  obtain ⟨yv, zv, rfl, ry, rz⟩ := r1.two_inv
  refine ⟨yv, zv, rfl, fun d hd => ?_⟩
  refine kk (.ref C) (some O1.length) (some d) _ _ _ _ (g1.trans Gr.push) (j1.newXd hd (fsR2 ry rz)) ?_ q1
  show (θ1 ++ [d])[O1.length]? = some d
  rw [← j1.len]
  simp
end

/-! ### try -/
theorem takesN0 {X : Cx} : L2N.Takes X (fun _ _ _ _ => False) := fun _ _ x => by
  obtain ⟨_, _, _, _, _, _, _, _, _, _, _, _, _, _, _, _, z⟩ := x
  exact z.elim
def dHs (K : PySem.W.Frag) (D : DEnds) : List (Value × DTS) → Value → DS → Sto → Prop
  | [], _, _, _ => False
  | (c, ws) :: r, cls, δ, O => ∃ b, PySem.W.exmOne K cls c = some b ∧ if b = true then ws D δ O else dHs K D r cls δ O
def dTry (K : PySem.W.Frag) (wb : DTX) (l : List (Value × DTS)) : DTS := fun D δ O => wb { D with ex := fun cls _ δ O => dHs K D l cls δ O } δ O
/-- the clauses: a class each, no name -/
inductive EHs (X : Cx) : List ExceptHandler → List (Value × DTS) → Prop
  | nil : EHs X [] []
  | cons {x : Str} {c : Value} {ws : DTS} {b₀ : Stmt} {suite : List Stmt} {np pos' : Pos} {hds : List ExceptHandler} {l : List (Value × DTS)} (hc : Names X x c)
      (hsu : ∀ (a : Addr) (oe : Obj) (pn : List (Addr × Obj)), EDB (X.suite a ((a, oe) :: pn)) (b₀ :: suite) ws) (r : EHs X hds l) :
      EHs X (.ExceptHandler (some (.Name x np)) none (b₀ :: suite) pos' :: hds) ((c, ws) :: l)
theorem EHs.hds {X : Cx} {hds : List ExceptHandler} {l : List (Value × DTS)} (h : EHs X hds l) : ∃ l', L2N.HdsOk X hds l' ∧ ∀ F H θ O σ δ D D' cls d, Jn X.K F H θ O → RS X.K F θ σ δ → Lk X.K F θ D D' → dHs X.K D l cls δ O → wMany X.K (fun _ _ _ _ => False) D' l' cls d σ H := by
  induction h with
  | nil => exact ⟨[], .nil, fun F H θ O σ δ D D' cls d j s lk h => h⟩
  | @cons x c ws b₀ suite np pos' hds l hc hsu r ih =>
    obtain ⟨l', h1, h2⟩ := ih
    refine ⟨(c, fun a cls d => fun D σ H => ∀ oe pn, Classical.choose (hsu a oe pn).ex D σ H) :: l', .cons hc (fun a oe cls d pn _ _ => ⟨fun pins s σ H D I hw => (Classical.choose_spec (hsu a oe pn).ex).1.run pins s σ H D I (hw oe pn)⟩) h1,
      fun F H θ O σ δ D D' cls d j s lk h => ?_⟩
    obtain ⟨b, hb, h⟩ := h
    refine ⟨b, hb, fun e a _ oe pn => ?_, fun e => ?_⟩
    · rw [if_pos e] at h
      exact (Classical.choose_spec (hsu a oe pn).ex).2 F H θ O σ δ D D' j s h lk
    · rw [if_neg (by rw [e]; simp)] at h
      exact h2 F H θ O σ δ D D' cls d j s lk h
section
variable {X : Cx} {body : List Stmt} {h₀ : ExceptHandler} {hds : List ExceptHandler} {l : List (Value × DTS)} {pos : Pos} {wb : DTX}
theorem uni_b (hb : ∀ (W : WX) (pn : List (Addr × Obj)) (xe : Value → Shared → Prop), L2N.Takes (X.tr pn xe) W → PassesOwn (model X.prog X.w) X.A X.env xe → EDXB (X.tr pn xe) W body wb) :
    ∃ tb : WX → TS, (∀ (W : WX) (pn : List (Addr × Obj)) (xe : Value → Shared → Prop), L2N.Takes (X.tr pn xe) W → PassesOwn (model X.prog X.w) X.A X.env xe → PSs (X.tr pn xe) body (tb W)) ∧ ∀ W, SSX X.K W (tb W) wb :=
  ⟨fun W => fun D σ H => ∀ pn xe (tk : L2N.Takes (X.tr pn xe) W) (po : PassesOwn (model X.prog X.w) X.A X.env xe), Classical.choose (hb W pn xe tk po).ex D σ H,
    fun W pn xe tk po => ⟨fun pins s σ H D I hw => (Classical.choose_spec (hb W pn xe tk po).ex).1.run pins s σ H D I (hw pn xe tk po)⟩,
    fun W F H θ O σ δ D D' j s q lk pn xe tk po => (Classical.choose_spec (hb W pn xe tk po).ex).2 F H θ O σ δ D D' j s q lk⟩
theorem es_try (hs : X.stack = X.env :: X.outer) (hf : X.env.frame = some X.env.locals)
    (hb : ∀ (W : WX) (pn : List (Addr × Obj)) (xe : Value → Shared → Prop), L2N.Takes (X.tr pn xe) W → PassesOwn (model X.prog X.w) X.A X.env xe → EDXB (X.tr pn xe) W body wb) (hh : EHs X (h₀ :: hds) l) :
    EDS X (.Try body (h₀ :: hds) [] [] pos) (dTry X.K wb l) := by
  obtain ⟨tb, p0, s0⟩ := uni_b hb
  obtain ⟨l', h1, h2⟩ := hh.hds
  refine ⟨_, L2N.ps_try_many hs hf takesN0 p0 h1, fun F H θ O σ δ D D' j s q lk => ?_⟩
  exact s0 _ F H θ O σ δ _ D' j s q ⟨lk, fun F' H' θ' O' σ' δ' cls dk d g j' s' _ h => h2 F' H' θ' O' σ' δ' D D' cls d j' s' (lk.mono g) h⟩
/-- except X as n -/
def endsAs (i : Nat) (D : DEnds) : DEnds := { nx := fun δ' O' => D.nx (δ'.set i none) O', rt := D.rt, bk := fun δ' O' => D.bk (δ'.set i none) O', ct := fun δ' O' => D.ct (δ'.set i none) O' }
def dAs (K : PySem.W.Frag) (c : Value) (i : Nat) (ws : Addr → Value → Option Addr → DTS) (D : DEnds) : Value → Option Nat → DS → Sto → Prop := fun cls dk δ O => PySem.W.exmOne K cls c = some true ∧ ∀ a d, ws a cls d (endsAs i D) (δ.set i (some (.xr a d dk))) O
def dTryAs (K : PySem.W.Frag) (wb : DTX) (c : Value) (i : Nat) (ws : Addr → Value → Option Addr → DTS) : DTS := fun D δ O => wb { D with ex := dAs K c i ws D } δ O
theorem RS.gone {K : PySem.W.Frag} {F : Hp} {θ : List Addr} {σ : L2.St} {δ : DS} (h : RS K F θ σ δ) (i : Nat) : RS K F θ (σ.set i none) (δ.set i none) := by
  refine ⟨by rw [List.length_set, List.length_set]; exact h.1, fun j w e => ?_⟩
  by_cases q : j = i
  · subst q
    by_cases hl : j < δ.length
    · rw [List.getElem?_set_self hl] at e
      cases e
    · rw [List.getElem?_eq_none (by rw [List.length_set]; omega)] at e
      cases e
  · rw [List.getElem?_set_ne (Ne.symm q)] at e ⊢
    exact h.2 j w e
theorem es_tryAs {x n : Str} {c : Value} {i : Nat} {suite : List Stmt} {b₀ : Stmt} {np pos' : Pos} {ws : Addr → Value → Option Addr → DTS} (hs : X.stack = X.env :: X.outer) (hf : X.env.frame = some X.env.locals) (hN : X.N.Nodup) (hi : X.N[i]? = some n) (hln : X.env.kindOf n = some .local) (hc : Names X x c)
    (hb : ∀ (W : WX) (pn : List (Addr × Obj)) (xe : Value → Shared → Prop), L2N.Takes (X.tr pn xe) W → PassesOwn (model X.prog X.w) X.A X.env xe → EDXB (X.tr pn xe) W body wb)
    (hsu : ∀ (a : Addr) (oe : Obj) (cls : Value) (d : Option Addr) (pn : List (Addr × Obj)), Zc cls d oe → (∃ vs, oe.data = .fields vs) → EDB (X.suite a ((a, oe) :: pn)) (b₀ :: suite) (ws a cls d)) :
    EDS X (.Try body [.ExceptHandler (some (.Name x np)) (some n) (b₀ :: suite) pos'] [] [] pos) (dTryAs X.K wb c i ws) := by
  obtain ⟨tb, p0, s0⟩ := uni_b hb
  refine ⟨_, L2N.ps_try_as (ts := fun a cls d => fun D σ H => ∀ oe pn (z : Zc cls d oe) (f : ∃ vs, oe.data = .fields vs), Classical.choose (hsu a oe cls d pn z f).ex D σ H) hs hf hN hi hln hc takesN0 p0
    (fun a oe cls d pn z f => ⟨fun pins s σ H D I hw => (Classical.choose_spec (hsu a oe cls d pn z.zc f).ex).1.run pins s σ H D I (hw oe pn z.zc f)⟩), fun F H θ O σ δ D D' j s q lk => ?_⟩
  refine s0 _ F H θ O σ δ _ D' j s q ⟨lk, fun F' H' θ' O' σ' δ' cls dk d g j' s' hd h => ⟨true, h.1, fun _ a _ oe pn z f => ?_, fun e => by cases e⟩⟩
  refine (Classical.choose_spec (hsu a oe cls d pn z f).ex).2 F' H' θ' O' _ _ _ _ j' (s'.set i (.xr hd)) (h.2 a d) ?_
  have lk' := lk.mono g
  exact ⟨fun F2 H2 θ2 O2 σ2 δ2 g2 j2 s2 q2 => lk'.nx F2 H2 θ2 O2 _ _ g2 j2 (s2.gone i) q2, lk'.rt, fun F2 H2 θ2 O2 σ2 δ2 g2 j2 s2 q2 => lk'.bk F2 H2 θ2 O2 _ _ g2 j2 (s2.gone i) q2, fun F2 H2 θ2 O2 σ2 δ2 g2 j2 s2 q2 => lk'.ct F2 H2 θ2 O2 _ _ g2 j2 (s2.gone i) q2⟩
end
/-- how a call with keywords binds, no defaults -/
theorem kbN {K : PySem.W.Frag} {x qual : Str} {params : Arguments} {body : List Stmt} {scope : Scope} {kws : List (Str × V)} {f : Addr} {fd : FuncData} {ps ks : List Str} {g : List Value → List Value → List Value} {gV : List V → List V → List V} (F : FunD K x qual params body scope [] kws f fd)
    (hrel : ∀ {vs : List V} {us : List Value} {zs : List V} {ws : List Value}, Vals vs us → Vals zs ws → Vals (gV vs zs) (g us ws))
    (h : ∀ (kV doc pm : Value) (an : Option Addr) (cdv ct : Value) (us ws : List Value), (g us ws).length = ps.length → bindArgs (PySem.W.fnOf x qual params body scope .none kV doc pm an cdv ct) ⟨us, ks.zip ws⟩ = pure (ps.zip (g us ws))) : KBinds K fd ps ks g gV := by
  obtain ⟨oc, od, dV, kV, doc, pm, an, cdv, ct, osl, rfl, lk, hcd, hD, hK⟩ := F.ex
  rcases hD with ⟨_, rfl⟩ | ⟨e, _⟩
  · exact ⟨fun s us ws _ hl => .of_eq (h kV doc pm an cdv ct us ws hl), hrel⟩
  · exact absurd rfl e
theorem XcAt.app {O : Sto} {k : Nat} {D : Addr} (h : XcAt O k D) (ys : Sto) : XcAt (O ++ ys) k D := by
  have e : ∀ {i : Nat} {c : Cell}, O[i]? = some c → (O ++ ys)[i]? = some c := fun h => by rw [List.getElem?_append_left (List.getElem?_eq_some_iff.mp h).1]; exact h
  rcases h with h | ⟨j, fs, h1, h2⟩
  · exact .inl (e h)
  · exact .inr ⟨j, fs, e h1, e h2⟩
end Dm

set_option Elab.async false
set_option linter.all false
set_option maxRecDepth 100000
set_option maxHeartbeats 4000000
/-! The data machine: the law's own call, the end of a law, a hook with facts of one's own. -/
namespace Dm
open PySem PySem.Spec PyProof.Rows L2
/-- no list stands in the written part -/
def noLst (K : PySem.W.Frag) : Bool := K.all fun p => !(p.2.cls == Value.type "list")
theorem noLst_ok {K : PySem.W.Frag} (h : noLst K = true) {a : Addr} {o : Obj} (e : K.lookup a = some o) : o.cls ≠ .type "list" := by
  intro z
  have m : ∀ l : List (Addr × Obj), l.lookup a = some o → ∃ b, (b, o) ∈ l := by
    intro l
    induction l with
    | nil => intro h; cases h
    | cons p l ih =>
      intro h
      obtain ⟨b, q⟩ := p
      rw [List.lookup_cons] at h
      split at h
      · cases h
        exact ⟨b, List.mem_cons_self⟩
      · obtain ⟨c, hc⟩ := ih h
        exact ⟨c, List.mem_cons_of_mem _ hc⟩
  obtain ⟨b, hb⟩ := m K e
  have q := List.all_eq_true.mp h (b, o) hb
  rw [show ((b, o) : Addr × Obj).2.cls = Value.type "list" from z] at q
  simp at q
/-- the law's def called with the script -/
theorem law_callG {P : Program} {w : World} {K : PySem.W.Frag} {mg mb : Str → Option Value} {k : Nat} {fa a : Addr} {fd : FuncData} {x : Str} {sp : SpD} {s₁ : Shared} {vs : List Value} {ns : List Int} (KX : K.In s₁.heap) (nl : noLst K = true) (hns : s₁.heap.Ns mainGlobals mg)
    (hb : s₁.heap.Ns builtinsNs mb) (hbb : ∀ x : Str, x ≠ "__name__" → mb x = bootBuiltins x) (hlim : s₁.heap.NoLimit) (hg : s₁.gens = #[]) (ha : s₁.heap.get? a = some { cls := .type "list", data := .seq vs.toArray }) (hi : IntsAre vs ns) (hl : ns.length ≤ sizeLine) (hr : Room k callerA)
    (F : ∀ base : Heap, K.In base → base.Ns mainGlobals mg → FnG P w K mg base k fa fd [x] sp) (hbind : ∀ (s : Shared) (u : Value), BindsTo s fd ⟨[u], []⟩ [(x, u)]) (hsp : sp [.cell 0] [.rol (ns.map W.int)] fun w _ => w = .bl true) :
    codeAny (model P w) callerA (.call (.ref fa) ⟨[.ref a], []⟩) (fun r s' => r = .ok (.ret (.bool true)) ∧ OldK s₁.heap s'.heap ∧ s'.os = s₁.os ∧ AllBare s'.gens) s₁ := by
  have kn : K.lookup a = none := by
    cases e : K.lookup a with
    | none => rfl
    | some o =>
      have q := KX a o e
      rw [ha] at q
      cases q
      exact absurd rfl (noLst_ok nl e)
  let H : Hp := fun b => if b = a then some (.frz { cls := .type "list", data := .seq vs.toArray } (.lst (ns.map V.int))) else none
  have hAt : H a = some (.frz { cls := .type "list", data := .seq vs.toArray } (.lst (ns.map V.int))) := if_pos rfl
  have hNo : ∀ b, b ≠ a → H b = none := fun b n => if_neg n
  have hok : HOk P w H s₁.heap := fun b u z => by
    by_cases e : b = a
    · subst e
      rw [hAt] at z
      cases z
      exact ⟨ha, by rw [List.length_map]; exact hl, vs, _, vals_ints hi, ha⟩
    · rw [hNo b e] at z
      cases z
  have up : ∀ {b : Addr} {o : Obj}, s₁.heap.get? b = some o → b ≠ a → (hidT s₁.heap H).get? b = some o := fun q n => hidT_get q (hNo _ n)
  have hKb : K.In (hidT s₁.heap H) := fun b o e => up (KX b o e) (fun z => by rw [z, kn] at e; cases e)
  have nsK : ∀ {b : Addr} {m : Str → Option Value}, s₁.heap.Ns b m → (hidT s₁.heap H).Ns b m := fun {b m} ⟨o, es, ep, e, d, r⟩ => ⟨o, es, ep, up e (fun z => by
    rw [z, ha] at e
    cases e
    cases d), d, r⟩
  have hM : Mod K mg (hidT s₁.heap H) := ⟨hKb, nsK hns, ⟨mb, nsK hb, hbb⟩, let ⟨mc, h1, h2⟩ := hlim; ⟨mc, nsK h1, h2⟩⟩
  have none0 : ∀ {b : Addr}, b ∉ ([] : List Addr) := fun z => nomatch z
  have e0 : Env0 P w K mg (hidT s₁.heap H) callerA [] s₁ H := ⟨rfl, hM, fun _ _ e => of_hidT e, Nat.le_of_eq (hidT_size _ _), trivial, fun b hb => absurd hb none0, hok, .of_eq hg⟩
  have jn : Jn K (fun _ => none) H [a] [.rol (ns.map W.int)] := by
    refine ⟨(fun _ _ e => nomatch e), rfl, by simp [List.nodup_cons], fun i b c e1 e2 => ?_, fun i b e => ?_⟩
    · cases i with
      | zero =>
        cases e1
        cases e2
        exact ⟨rfl, _, _, hAt, RWs.ints⟩
      | succ i => cases e1
    · cases i with
      | zero =>
        cases e
        rw [hAt]
        simp
      | succ i => cases e
  refine codeAny_mono ((F _ hKb (nsK hns)).run callerA [] s₁ H ⟨[.ref a], []⟩ [.ref a] [.ref a] (fun v _ => v = .bl true) ⟨hr, rfl⟩ e0 (hbind s₁ (.ref a)) (.cons rfl .nil)
    ⟨_, _, _, [.cell 0], _, jn, .cons (.cell rfl) .nil, hsp, fun v w F' H' θ' O' _ _ r q => by rw [q] at r; exact r.bl_inv⟩) fun r s' h => ?_
  cases r with
  | error e => exact (show False from h).elim
  | ok fl =>
    cases fl with
    | next => exact False.elim h
    | brk => exact False.elim h
    | cont => exact False.elim h
    | ret u =>
      obtain ⟨v, H', os, bare, un, hok', r', q⟩ := h
      subst q
      obtain rfl : u = Value.bool true := r'
      refine ⟨rfl, OldK.of_keep fun b o e => ?_, os, bare⟩
      by_cases n : b = a
      · subst n
        obtain ⟨e1, _⟩ := hok b _ hAt
        obtain ⟨e2, _⟩ := hok' b _ (un.frzs b _ _ hAt)
        rw [e] at e1
        cases e1
        exact e2
      · exact un.keep b o e (hNo b n) none0 none0
/-- the end of a law: F gives the written part, the function object, the promise over every base -/
theorem walk_ofG {l : PySem.W.OpenLaw} {n k : Nat} {q : Program} {loose : List Str} {XP : (Str → Option Value) → Heap → Prop} {YP : World → Heap → Prop} {d : DefRec} {x : Str} (hn : l.most = some n) (hn2 : n ≤ sizeLine) (hdf : d.params.defaults = []) (hr : Room k callerA)
    (F : ∀ (w : World) (mg : Str → Option Value) (fa : Addr) (h : Heap), YP w h → h.Ns mainGlobals mg → mg d.name = some (.ref fa) →
      ∃ (K : PySem.W.Frag) (fd : FuncData) (sp : SpD), K.In h ∧ noLst K = true ∧ (∀ (s : Shared) (u : Value), BindsTo s fd ⟨[u], []⟩ [(x, u)]) ∧
        (∀ ns : List Int, ns.length ≤ n → (∀ z ∈ ns, Builtin.Int.intBits z ≤ 1048576) → sp [.cell 0] [.rol (ns.map W.int)] fun w _ => w = .bl true) ∧
        ∀ base : Heap, K.In base → base.Ns mainGlobals mg → FnG l.prog w K mg base k fa fd [x] sp) :
    PySem.W.WalkO q loose XP YP l.row.toRowW d [] (fun f vs => PySem.call f vs) := by
  refine Att.attach_callB hn hdf fun w s₀ s₁ mg mb fa o pm cd doc a vs ns G Y ho hd hcd hmg hobj hints hlen hbits hg => ?_
  obtain ⟨K, fd, sp, KX, nl, hb, hsp, hF⟩ := F w mg fa _ Y G.T.g hmg
  exact law_callG KX nl G.T.g G.T.b G.T.builtins G.T.nolimit hg hobj hints (Nat.le_trans hlen hn2) hr hF hb (hsp ns hlen hbits)

/-! ### a hook with facts of one's own -/
def obsX (xs : PySem.W.Frag → Bool) (fa : List He.Fa) (fn : List He.DefD) (K : PySem.W.Frag) : Bool × He.AlD := (xs K, He.obsD fa fn K)
def obsXG (xs : PySem.W.Frag → Bool) (n : Nat) (fa : List He.Fa) (fn : List He.DefD) (g : Addr → Option Obj) : Bool × He.AlD := obsX xs fa fn (He.frG g (He.asD g n))
def SaysX (xs : PySem.W.Frag → Bool) (fa : List He.Fa) (fn : List He.DefD) (K : PySem.W.Frag) : Prop := obsX xs fa fn K = (true, He.valD fn)
def hookX (xs : PySem.W.Frag → Bool) (n : Nat) (fa : List He.Fa) (fn : List He.DefD) : PySem.W.Hook where
  α := Bool × He.AlD
  obs := fun s => obsXG xs n fa fn s.heap.get?
  val := fun _ => (true, He.valD fn)
  says := fun _ h => ∃ K : PySem.W.Frag, K.In h ∧ SaysX xs fa fn K
  of := fun _ _ e => ⟨_, He.frG_in, e⟩
  keeps := fun _ _ _ ⟨K, hK, c⟩ k => ⟨K, PySem.W.Frag.In.keeps hK k, c⟩
theorem obsXG_eq {xs : PySem.W.Frag → Bool} {n : Nat} {fa : List He.Fa} {fn : List He.DefD} {g : Addr → Option Obj} {s : Shared} (h : ∀ a, g a = s.heap.get? a) : obsXG xs n fa fn g = (hookX xs n fa fn).obs s := by
  have e : g = s.heap.get? := funext h
  rw [e] <;> rfl
theorem SaysX.own {xs : PySem.W.Frag → Bool} {fa : List He.Fa} {fn : List He.DefD} {K : PySem.W.Frag} (c : SaysX xs fa fn K) : xs K = true := congrArg Prod.fst c
theorem SaysX.d {xs : PySem.W.Frag → Bool} {fa : List He.Fa} {fn : List He.DefD} {K : PySem.W.Frag} (c : SaysX xs fa fn K) : He.SaysD fa fn K := congrArg Prod.snd c
end Dm

set_option Elab.async false
set_option linter.all false
set_option maxRecDepth 100000
set_option maxHeartbeats 4000000
/-! k00: the texts, the derivations. -/
namespace K00
open PySem PySem.Spec PyProof.Rows L2 Dm
def topS (i : Nat) : Stmt := PySem.Challenge.pw_pairedtongues_k00_error_classes.main.body.getD i (.Pass ⟨0, 0, 0, 0⟩)
def clsBody : Stmt → List Stmt
  | .ClassDef _ _ _ b _ _ _ _ _ _ _ => b
  | _ => []
abbrev FnP (K : PySem.W.Frag) (x : Str) (st : Stmt) (f : Addr) (fd : FuncData) : Prop := FunD K x x (defArgs st) (defBody st) (defScope st) [] [] f fd
abbrev outD (S : WK) : DEnds := { nx := fun _ O' => S .non O', rt := S }
def cls : List Str := ["BadBook", "BadText", "BadSide", "BadRows", "BadNumber", "BadName", "BadForm", "BadWord", "BadReading", "BadPaper", "BadCount", "BadLinks", "NoPair", "BadPlace", "BadOrder", "BadWorld", "BadTerm", "BadKind", "BadNumbers", "BadExamples", "BadRule", "Needed", "NothingToUndo", "Full", "BadCommand", "TooMany"]
/-- what the head says of the classes -/
structure Fx (K : PySem.W.Frag) (mg : Str → Option Value) : Prop where
  g : ∀ n ∈ ("TongueError" : Str) :: cls, mg n = some (.ref (He.ga K n))
  x0 : ∀ n ∈ ("TongueError" : Str) :: cls.eraseIdx 3, XC0 K (He.ga K n)
  kit : ∀ (i j : Nat) (x y : Str), cls[i]? = some x → cls[j]? = some y → PySem.W.kitOne K (.ref (He.ga K x)) (.ref (He.ga K y)) = some (i == j)
  kitT : ∀ (i : Nat) (x : Str), cls[i]? = some x → PySem.W.kitOne K (.ref (He.ga K x)) (.ref (He.ga K "TongueError")) = some true ∧ PySem.W.kitOne K (.ref (He.ga K x)) (.type "ValueError") = some true ∧ PySem.W.kitOne K (.ref (He.ga K "TongueError")) (.ref (He.ga K x)) = some false
  kitV : PySem.W.kitOne K (.ref (He.ga K "TongueError")) (.type "ValueError") = some true
  exm : ∀ (i j : Nat) (x y : Str), cls[i]? = some x → cls[j]? = some y → PySem.W.exmOne K (.ref (He.ga K x)) (.ref (He.ga K y)) = some (i == j)
  exmT : PySem.W.exmOne K (.ref (He.ga K "BadRows")) (.ref (He.ga K "TongueError")) = some true
def kg2 : List W → List W
  | [w, r] => [r, w]
  | _ => []
def kgV : List V → List V
  | [w, r] => [r, w]
  | _ => []
def kgU : List Value → List Value
  | [w, r] => [r, w]
  | _ => []
def g1 {α : Type} (t : List α → List α) : List α → List α → List α
  | [a], ws => a :: t ws
  | _, _ => []
theorem kb2 {K : PySem.W.Frag} : ∀ F θ vs ws y z, RWs K F θ vs ws → kg2 ws = [y, z] → ∃ yv zv, kgV vs = [yv, zv] ∧ RW K F θ yv y ∧ RW K F θ zv z := by
  intro F θ vs ws y z r e
  cases r with
  | nil => cases e
  | cons r1 r =>
    cases r with
    | nil => cases e
    | cons r2 r =>
      cases r with
      | nil => cases e; exact ⟨_, _, rfl, r2, r1⟩
      | cons r3 r => cases e
/-- BadRows' own __init__ -/
def Ini (P : Program) (w : World) (K : PySem.W.Frag) (mg : Str → Option Value) (base : Heap) : Prop := ∃ (fI : Addr) (fdI : FuncData), XCI K (He.ga K "BadRows") fI ∧ FnOk P w K mg base CX0 1 fI fdI ["self", "row", "word"] (spIni (He.ga K "BadRows") "row" "word") ∧ Binds K fdI ["self", "row", "word"] [] ∧
  KBinds K fdI ["self", "row", "word"] ["word", "row"] (g1 kgU) (g1 kgV) ∧ PySem.W.findIn K (.ref (He.ga K "BadRows")) "row" = some none ∧ PySem.W.findIn K (.ref (He.ga K "BadRows")) "word" = some none
def Ext (O O' : Sto) : Prop := ∃ ys, O' = O ++ ys
def sp_flags (K : PySem.W.Frag) : SpD := fun ws O S => ∃ (k : Nat) (D : Addr) (bs : Nat → Bool), ws = [.cell k] ∧ XcAt O k D ∧ XC K D ∧ (∀ (i : Nat) (x : Str), cls[i]? = some x → PySem.W.kitOne K (.ref D) (.ref (He.ga K x)) = some (bs i)) ∧
  ∀ O' m, Ext O O' → O'[m]? = some (.lst ((List.range 26).map fun i => W.bl (bs i))) → S (.cell m) O'
def sp_caught : SpD := fun ws O S => ∃ n t, ws = [.int n, .str t] ∧ n ∈ ([0, 1, 2, 4, 5, 25] : List Int) ∧ ∀ O', Ext O O' → S (.bl true) O'
def sp_base : SpD := fun ws O S => ∃ r w, ws = [.int r, .int w] ∧ ∀ O', Ext O O' → S (.bl true) O'
def sp_law : SpD := fun ws O S => ∃ ns : List Int, ws = [.cell 0] ∧ O = [.rol (ns.map W.int)] ∧ (∀ z ∈ ns, Builtin.Int.intBits z ≤ 1048576) ∧ ∀ O', S (.bl true) O'
section
variable {P : Program} {w : World} {K : PySem.W.Frag} {mg : Str → Option Value} {base : Heap}

abbrev s_law_flags : Stmt := topS 29
theorem sc_law_flags : FnScope ["_law_e", "_law_first"] ["_law_e"] (defScope s_law_flags) := ⟨rfl, rfl, rfl, by decide +kernel, rfl, by decide +kernel, by decide +kernel⟩
def d_law_flags (K : PySem.W.Frag) : DTS := (dSeq (dSet 1 (dLst (dCons (dCB (rdIsO K) (dCons (dVar 0) (dCons (dC (.ref (He.ga K "BadBook"))) dNil))) (dCons (dCB (rdIsO K) (dCons (dVar 0) (dCons (dC (.ref (He.ga K "BadText"))) dNil))) (dCons (dCB (rdIsO K) (dCons (dVar 0) (dCons (dC (.ref (He.ga K "BadSide"))) dNil))) (dCons (dCB (rdIsO K) (dCons (dVar 0) (dCons (dC (.ref (He.ga K "BadRows"))) dNil))) (dCons (dCB (rdIsO K) (dCons (dVar 0) (dCons (dC (.ref (He.ga K "BadNumber"))) dNil))) dNil)))))))
    (dSeq (dSet 1 (dCatL (dVar 1) (dLst (dCons (dCB (rdIsO K) (dCons (dVar 0) (dCons (dC (.ref (He.ga K "BadName"))) dNil))) (dCons (dCB (rdIsO K) (dCons (dVar 0) (dCons (dC (.ref (He.ga K "BadForm"))) dNil))) (dCons (dCB (rdIsO K) (dCons (dVar 0) (dCons (dC (.ref (He.ga K "BadWord"))) dNil))) (dCons (dCB (rdIsO K) (dCons (dVar 0) (dCons (dC (.ref (He.ga K "BadReading"))) dNil))) dNil)))))))
    (dSeq (dSet 1 (dCatL (dVar 1) (dLst (dCons (dCB (rdIsO K) (dCons (dVar 0) (dCons (dC (.ref (He.ga K "BadPaper"))) dNil))) (dCons (dCB (rdIsO K) (dCons (dVar 0) (dCons (dC (.ref (He.ga K "BadCount"))) dNil))) (dCons (dCB (rdIsO K) (dCons (dVar 0) (dCons (dC (.ref (He.ga K "BadLinks"))) dNil))) (dCons (dCB (rdIsO K) (dCons (dVar 0) (dCons (dC (.ref (He.ga K "NoPair"))) dNil))) dNil)))))))
    (dSeq (dSet 1 (dCatL (dVar 1) (dLst (dCons (dCB (rdIsO K) (dCons (dVar 0) (dCons (dC (.ref (He.ga K "BadPlace"))) dNil))) (dCons (dCB (rdIsO K) (dCons (dVar 0) (dCons (dC (.ref (He.ga K "BadOrder"))) dNil))) (dCons (dCB (rdIsO K) (dCons (dVar 0) (dCons (dC (.ref (He.ga K "BadWorld"))) dNil))) (dCons (dCB (rdIsO K) (dCons (dVar 0) (dCons (dC (.ref (He.ga K "BadTerm"))) dNil))) dNil)))))))
    (dSeq (dSet 1 (dCatL (dVar 1) (dLst (dCons (dCB (rdIsO K) (dCons (dVar 0) (dCons (dC (.ref (He.ga K "BadKind"))) dNil))) (dCons (dCB (rdIsO K) (dCons (dVar 0) (dCons (dC (.ref (He.ga K "BadNumbers"))) dNil))) (dCons (dCB (rdIsO K) (dCons (dVar 0) (dCons (dC (.ref (He.ga K "BadExamples"))) dNil))) (dCons (dCB (rdIsO K) (dCons (dVar 0) (dCons (dC (.ref (He.ga K "BadRule"))) dNil))) dNil)))))))
    (dSeq (dSet 1 (dCatL (dVar 1) (dLst (dCons (dCB (rdIsO K) (dCons (dVar 0) (dCons (dC (.ref (He.ga K "Needed"))) dNil))) (dCons (dCB (rdIsO K) (dCons (dVar 0) (dCons (dC (.ref (He.ga K "NothingToUndo"))) dNil))) (dCons (dCB (rdIsO K) (dCons (dVar 0) (dCons (dC (.ref (He.ga K "Full"))) dNil))) (dCons (dCB (rdIsO K) (dCons (dVar 0) (dCons (dC (.ref (He.ga K "BadCommand"))) dNil))) dNil)))))))
    (dRet (dCatL (dVar 1) (dLst (dCons (dCB (rdIsO K) (dCons (dVar 0) (dCons (dC (.ref (He.ga K "TooMany"))) dNil))) dNil))))))))))
theorem ok_law_flags {f : Addr} {fd : FuncData} (F : FnP K "_law_flags" s_law_flags f fd) (X : Fx K mg) (I : Ini P w K mg base) (z_isinstance : mg "isinstance" = none) 
    (len : ∀ ws O S, (sp_flags K) ws O S → ws.length = 1) (rd : ∀ ws O S, (sp_flags K) ws O S → d_law_flags K (outD S) (startD ["_law_e", "_law_first"] ws) O) : FnG P w K mg base 1 f fd ["_law_e"] (sp_flags K) := by
  refine FunG F sc_law_flags len fun cdv A outer s H hr => ?_
  have sc := sc_law_flags
  have gBadBook := X.g "BadBook" (by decide +kernel)
  have TBadBook := X.x0 "BadBook" (by decide +kernel)
  have gBadText := X.g "BadText" (by decide +kernel)
  have TBadText := X.x0 "BadText" (by decide +kernel)
  have gBadSide := X.g "BadSide" (by decide +kernel)
  have TBadSide := X.x0 "BadSide" (by decide +kernel)
  have gBadRows := X.g "BadRows" (by decide +kernel)
  have gBadNumber := X.g "BadNumber" (by decide +kernel)
  have TBadNumber := X.x0 "BadNumber" (by decide +kernel)
  have gBadName := X.g "BadName" (by decide +kernel)
  have TBadName := X.x0 "BadName" (by decide +kernel)
  have gBadForm := X.g "BadForm" (by decide +kernel)
  have TBadForm := X.x0 "BadForm" (by decide +kernel)
  have gBadWord := X.g "BadWord" (by decide +kernel)
  have TBadWord := X.x0 "BadWord" (by decide +kernel)
  have gBadReading := X.g "BadReading" (by decide +kernel)
  have TBadReading := X.x0 "BadReading" (by decide +kernel)
  have gBadPaper := X.g "BadPaper" (by decide +kernel)
  have TBadPaper := X.x0 "BadPaper" (by decide +kernel)
  have gBadCount := X.g "BadCount" (by decide +kernel)
  have TBadCount := X.x0 "BadCount" (by decide +kernel)
  have gBadLinks := X.g "BadLinks" (by decide +kernel)
  have TBadLinks := X.x0 "BadLinks" (by decide +kernel)
  have gNoPair := X.g "NoPair" (by decide +kernel)
  have TNoPair := X.x0 "NoPair" (by decide +kernel)
  have gBadPlace := X.g "BadPlace" (by decide +kernel)
  have TBadPlace := X.x0 "BadPlace" (by decide +kernel)
  have gBadOrder := X.g "BadOrder" (by decide +kernel)
  have TBadOrder := X.x0 "BadOrder" (by decide +kernel)
  have gBadWorld := X.g "BadWorld" (by decide +kernel)
  have TBadWorld := X.x0 "BadWorld" (by decide +kernel)
  have gBadTerm := X.g "BadTerm" (by decide +kernel)
  have TBadTerm := X.x0 "BadTerm" (by decide +kernel)
  have gBadKind := X.g "BadKind" (by decide +kernel)
  have TBadKind := X.x0 "BadKind" (by decide +kernel)
  have gBadNumbers := X.g "BadNumbers" (by decide +kernel)
  have TBadNumbers := X.x0 "BadNumbers" (by decide +kernel)
  have gBadExamples := X.g "BadExamples" (by decide +kernel)
  have TBadExamples := X.x0 "BadExamples" (by decide +kernel)
  have gBadRule := X.g "BadRule" (by decide +kernel)
  have TBadRule := X.x0 "BadRule" (by decide +kernel)
  have gNeeded := X.g "Needed" (by decide +kernel)
  have TNeeded := X.x0 "Needed" (by decide +kernel)
  have gNothingToUndo := X.g "NothingToUndo" (by decide +kernel)
  have TNothingToUndo := X.x0 "NothingToUndo" (by decide +kernel)
  have gFull := X.g "Full" (by decide +kernel)
  have TFull := X.x0 "Full" (by decide +kernel)
  have gBadCommand := X.g "BadCommand" (by decide +kernel)
  have TBadCommand := X.x0 "BadCommand" (by decide +kernel)
  have gTooMany := X.g "TooMany" (by decide +kernel)
  have TTooMany := X.x0 "TooMany" (by decide +kernel)
  obtain ⟨fI, fdI, TBadRows, GIBadRows, bIBadRows, kbIBadRows, noBadRows_row, noBadRows_word⟩ := I
  exact ⟨d_law_flags K, (eb_cons (es_set (i := 1) sc.nd rfl (by first | exact Or.inl rfl | exact Or.inr rfl) (ed_lst (ea_cons (ed_callB call_isO src_isO (by rfl) z_isinstance (by decide +kernel) (ea_cons (dv 0) (ea_cons (ed_gref (by rfl) gBadBook) ea_nil))) (ea_cons (ed_callB call_isO src_isO (by rfl) z_isinstance (by decide +kernel) (ea_cons (dv 0) (ea_cons (ed_gref (by rfl) gBadText) ea_nil))) (ea_cons (ed_callB call_isO src_isO (by rfl) z_isinstance (by decide +kernel) (ea_cons (dv 0) (ea_cons (ed_gref (by rfl) gBadSide) ea_nil))) (ea_cons (ed_callB call_isO src_isO (by rfl) z_isinstance (by decide +kernel) (ea_cons (dv 0) (ea_cons (ed_gref (by rfl) gBadRows) ea_nil))) (ea_cons (ed_callB call_isO src_isO (by rfl) z_isinstance (by decide +kernel) (ea_cons (dv 0) (ea_cons (ed_gref (by rfl) gBadNumber) ea_nil))) ea_nil)))))))
      (eb_cons (es_set (i := 1) sc.nd rfl (by first | exact Or.inl rfl | exact Or.inr rfl) (ed_catL (dv 1) (ed_lst (ea_cons (ed_callB call_isO src_isO (by rfl) z_isinstance (by decide +kernel) (ea_cons (dv 0) (ea_cons (ed_gref (by rfl) gBadName) ea_nil))) (ea_cons (ed_callB call_isO src_isO (by rfl) z_isinstance (by decide +kernel) (ea_cons (dv 0) (ea_cons (ed_gref (by rfl) gBadForm) ea_nil))) (ea_cons (ed_callB call_isO src_isO (by rfl) z_isinstance (by decide +kernel) (ea_cons (dv 0) (ea_cons (ed_gref (by rfl) gBadWord) ea_nil))) (ea_cons (ed_callB call_isO src_isO (by rfl) z_isinstance (by decide +kernel) (ea_cons (dv 0) (ea_cons (ed_gref (by rfl) gBadReading) ea_nil))) ea_nil)))))))
      (eb_cons (es_set (i := 1) sc.nd rfl (by first | exact Or.inl rfl | exact Or.inr rfl) (ed_catL (dv 1) (ed_lst (ea_cons (ed_callB call_isO src_isO (by rfl) z_isinstance (by decide +kernel) (ea_cons (dv 0) (ea_cons (ed_gref (by rfl) gBadPaper) ea_nil))) (ea_cons (ed_callB call_isO src_isO (by rfl) z_isinstance (by decide +kernel) (ea_cons (dv 0) (ea_cons (ed_gref (by rfl) gBadCount) ea_nil))) (ea_cons (ed_callB call_isO src_isO (by rfl) z_isinstance (by decide +kernel) (ea_cons (dv 0) (ea_cons (ed_gref (by rfl) gBadLinks) ea_nil))) (ea_cons (ed_callB call_isO src_isO (by rfl) z_isinstance (by decide +kernel) (ea_cons (dv 0) (ea_cons (ed_gref (by rfl) gNoPair) ea_nil))) ea_nil)))))))
      (eb_cons (es_set (i := 1) sc.nd rfl (by first | exact Or.inl rfl | exact Or.inr rfl) (ed_catL (dv 1) (ed_lst (ea_cons (ed_callB call_isO src_isO (by rfl) z_isinstance (by decide +kernel) (ea_cons (dv 0) (ea_cons (ed_gref (by rfl) gBadPlace) ea_nil))) (ea_cons (ed_callB call_isO src_isO (by rfl) z_isinstance (by decide +kernel) (ea_cons (dv 0) (ea_cons (ed_gref (by rfl) gBadOrder) ea_nil))) (ea_cons (ed_callB call_isO src_isO (by rfl) z_isinstance (by decide +kernel) (ea_cons (dv 0) (ea_cons (ed_gref (by rfl) gBadWorld) ea_nil))) (ea_cons (ed_callB call_isO src_isO (by rfl) z_isinstance (by decide +kernel) (ea_cons (dv 0) (ea_cons (ed_gref (by rfl) gBadTerm) ea_nil))) ea_nil)))))))
      (eb_cons (es_set (i := 1) sc.nd rfl (by first | exact Or.inl rfl | exact Or.inr rfl) (ed_catL (dv 1) (ed_lst (ea_cons (ed_callB call_isO src_isO (by rfl) z_isinstance (by decide +kernel) (ea_cons (dv 0) (ea_cons (ed_gref (by rfl) gBadKind) ea_nil))) (ea_cons (ed_callB call_isO src_isO (by rfl) z_isinstance (by decide +kernel) (ea_cons (dv 0) (ea_cons (ed_gref (by rfl) gBadNumbers) ea_nil))) (ea_cons (ed_callB call_isO src_isO (by rfl) z_isinstance (by decide +kernel) (ea_cons (dv 0) (ea_cons (ed_gref (by rfl) gBadExamples) ea_nil))) (ea_cons (ed_callB call_isO src_isO (by rfl) z_isinstance (by decide +kernel) (ea_cons (dv 0) (ea_cons (ed_gref (by rfl) gBadRule) ea_nil))) ea_nil)))))))
      (eb_cons (es_set (i := 1) sc.nd rfl (by first | exact Or.inl rfl | exact Or.inr rfl) (ed_catL (dv 1) (ed_lst (ea_cons (ed_callB call_isO src_isO (by rfl) z_isinstance (by decide +kernel) (ea_cons (dv 0) (ea_cons (ed_gref (by rfl) gNeeded) ea_nil))) (ea_cons (ed_callB call_isO src_isO (by rfl) z_isinstance (by decide +kernel) (ea_cons (dv 0) (ea_cons (ed_gref (by rfl) gNothingToUndo) ea_nil))) (ea_cons (ed_callB call_isO src_isO (by rfl) z_isinstance (by decide +kernel) (ea_cons (dv 0) (ea_cons (ed_gref (by rfl) gFull) ea_nil))) (ea_cons (ed_callB call_isO src_isO (by rfl) z_isinstance (by decide +kernel) (ea_cons (dv 0) (ea_cons (ed_gref (by rfl) gBadCommand) ea_nil))) ea_nil)))))))
      (eb_one (es_ret (ed_catL (dv 1) (ed_lst (ea_cons (ed_callB call_isO src_isO (by rfl) z_isinstance (by decide +kernel) (ea_cons (dv 0) (ea_cons (ed_gref (by rfl) gTooMany) ea_nil))) ea_nil))))))))))), fun ws O S h => rd ws O S h⟩
abbrev s_law_is_caught : Stmt := topS 30
theorem sc_law_is_caught : FnScope ["_law_number", "_law_text"] ["_law_number", "_law_text"] (defScope s_law_is_caught) := ⟨rfl, rfl, rfl, by decide +kernel, rfl, by decide +kernel, by decide +kernel⟩
def d_law_is_caught (K : PySem.W.Frag) : DTS := (dTry K (dxSeq (dxIf (dTest (dOp rdEq (dVar 0) (dC (.int 0)))) (dRaise (dM0 (He.ga K "BadBook") (dCons (dVar 1) dNil))) (dxOf dNext))
    (dxSeq (dxIf (dTest (dOp rdEq (dVar 0) (dC (.int 1)))) (dRaise (dM0 (He.ga K "BadText") (dCons (dVar 1) dNil))) (dxOf dNext))
    (dxSeq (dxIf (dTest (dOp rdEq (dVar 0) (dC (.int 2)))) (dRaise (dM0 (He.ga K "BadSide") (dCons (dVar 1) dNil))) (dxOf dNext))
    (dxSeq (dxIf (dTest (dOp rdEq (dVar 0) (dC (.int 4)))) (dRaise (dM0 (He.ga K "BadNumber") (dCons (dVar 1) dNil))) (dxOf dNext))
    (dxSeq (dxIf (dTest (dOp rdEq (dVar 0) (dC (.int 5)))) (dRaise (dM0 (He.ga K "BadName") (dCons (dVar 1) dNil))) (dxOf dNext))
    (dRaise (dM0 (He.ga K "TooMany") (dCons (dVar 1) dNil)))))))) ((.ref (He.ga K "BadBook"), (dRet (dOp rdEq (dVar 0) (dC (.int 0))))) :: ((.ref (He.ga K "BadText"), (dRet (dOp rdEq (dVar 0) (dC (.int 1))))) :: ((.ref (He.ga K "BadSide"), (dRet (dOp rdEq (dVar 0) (dC (.int 2))))) :: ((.ref (He.ga K "BadNumber"), (dRet (dOp rdEq (dVar 0) (dC (.int 4))))) :: ((.ref (He.ga K "BadName"), (dRet (dOp rdEq (dVar 0) (dC (.int 5))))) :: ((.ref (He.ga K "TooMany"), (dRet (dOp rdNinQ (dVar 0) (dLst (dCons (dC (.int 0)) (dCons (dC (.int 1)) (dCons (dC (.int 2)) (dCons (dC (.int 4)) (dCons (dC (.int 5)) dNil))))))))) :: [])))))))
theorem ok_law_is_caught {f : Addr} {fd : FuncData} (F : FnP K "_law_is_caught" s_law_is_caught f fd) (X : Fx K mg) (I : Ini P w K mg base)  
    (len : ∀ ws O S, sp_caught ws O S → ws.length = 2) (rd : ∀ ws O S, sp_caught ws O S → d_law_is_caught K (outD S) (startD ["_law_number", "_law_text"] ws) O) : FnG P w K mg base 1 f fd ["_law_number", "_law_text"] sp_caught := by
  refine FunG F sc_law_is_caught len fun cdv A outer s H hr => ?_
  have sc := sc_law_is_caught
  have gBadBook := X.g "BadBook" (by decide +kernel)
  have TBadBook := X.x0 "BadBook" (by decide +kernel)
  have gBadText := X.g "BadText" (by decide +kernel)
  have TBadText := X.x0 "BadText" (by decide +kernel)
  have gBadSide := X.g "BadSide" (by decide +kernel)
  have TBadSide := X.x0 "BadSide" (by decide +kernel)
  have gBadNumber := X.g "BadNumber" (by decide +kernel)
  have TBadNumber := X.x0 "BadNumber" (by decide +kernel)
  have gBadName := X.g "BadName" (by decide +kernel)
  have TBadName := X.x0 "BadName" (by decide +kernel)
  have gTooMany := X.g "TooMany" (by decide +kernel)
  have TTooMany := X.x0 "TooMany" (by decide +kernel)
  exact ⟨d_law_is_caught K, (eb_one (es_try rfl rfl (fun W pn xe tk po => (exb_cons (ex_if (et_eq (dv 0) ed_int) (exb_one (ex_raise rfl tk (em_x0 TBadBook gBadBook (by rfl) (ea_cons (dv 1) ea_nil)))) (eb_x eb_nil))
      (exb_cons (ex_if (et_eq (dv 0) ed_int) (exb_one (ex_raise rfl tk (em_x0 TBadText gBadText (by rfl) (ea_cons (dv 1) ea_nil)))) (eb_x eb_nil))
      (exb_cons (ex_if (et_eq (dv 0) ed_int) (exb_one (ex_raise rfl tk (em_x0 TBadSide gBadSide (by rfl) (ea_cons (dv 1) ea_nil)))) (eb_x eb_nil))
      (exb_cons (ex_if (et_eq (dv 0) ed_int) (exb_one (ex_raise rfl tk (em_x0 TBadNumber gBadNumber (by rfl) (ea_cons (dv 1) ea_nil)))) (eb_x eb_nil))
      (exb_cons (ex_if (et_eq (dv 0) ed_int) (exb_one (ex_raise rfl tk (em_x0 TBadName gBadName (by rfl) (ea_cons (dv 1) ea_nil)))) (eb_x eb_nil))
      (exb_one (ex_raise rfl tk (em_x0 TTooMany gTooMany (by rfl) (ea_cons (dv 1) ea_nil)))))))))) (.cons (c := .ref (He.ga K "BadBook")) ⟨by rfl, by decide, .inl gBadBook⟩ (fun a oe pn => (eb_one (es_ret (ed_eq (dv 0) ed_int)))) (.cons (c := .ref (He.ga K "BadText")) ⟨by rfl, by decide, .inl gBadText⟩ (fun a oe pn => (eb_one (es_ret (ed_eq (dv 0) ed_int)))) (.cons (c := .ref (He.ga K "BadSide")) ⟨by rfl, by decide, .inl gBadSide⟩ (fun a oe pn => (eb_one (es_ret (ed_eq (dv 0) ed_int)))) (.cons (c := .ref (He.ga K "BadNumber")) ⟨by rfl, by decide, .inl gBadNumber⟩ (fun a oe pn => (eb_one (es_ret (ed_eq (dv 0) ed_int)))) (.cons (c := .ref (He.ga K "BadName")) ⟨by rfl, by decide, .inl gBadName⟩ (fun a oe pn => (eb_one (es_ret (ed_eq (dv 0) ed_int)))) (.cons (c := .ref (He.ga K "TooMany")) ⟨by rfl, by decide, .inl gTooMany⟩ (fun a oe pn => (eb_one (es_ret (ed_ninQ (dv 0) (ed_lst (ea_cons ed_int (ea_cons ed_int (ea_cons ed_int (ea_cons ed_int (ea_cons ed_int ea_nil)))))))))) .nil)))))))), fun ws O S h => rd ws O S h⟩
abbrev s_law_is_base_caught : Stmt := topS 31
theorem sc_law_is_base_caught : FnScope ["_law_row", "_law_word", "_law_e"] ["_law_row", "_law_word"] (defScope s_law_is_base_caught) := ⟨rfl, rfl, rfl, by decide +kernel, rfl, by decide +kernel, by decide +kernel⟩
def d_law_is_base_caught (K : PySem.W.Frag) : DTS := (dTryAs K (dRaise (dMi (He.ga K "BadRows") "row" "word" (dCons (dVar 0) (dCons (dVar 1) dNil)))) (.ref (He.ga K "TongueError")) 2 fun a cls d => (dRet (dAndV (dCB (rdIsC K a cls d) (dCons (dVar 2) (dCons (dC (.ref (He.ga K "BadRows"))) dNil))) (dAndV (dOp rdEq (dXf K a cls d (He.ga K "BadRows") "row" (dVar 2)) (dVar 0)) (dOp rdEq (dXf K a cls d (He.ga K "BadRows") "word" (dVar 2)) (dVar 1))))))
theorem ok_law_is_base_caught {f : Addr} {fd : FuncData} (F : FnP K "_law_is_base_caught" s_law_is_base_caught f fd) (X : Fx K mg) (I : Ini P w K mg base) (z_isinstance : mg "isinstance" = none) 
    (len : ∀ ws O S, sp_base ws O S → ws.length = 2) (rd : ∀ ws O S, sp_base ws O S → d_law_is_base_caught K (outD S) (startD ["_law_row", "_law_word", "_law_e"] ws) O) : FnG P w K mg base 3 f fd ["_law_row", "_law_word"] sp_base := by
  refine FunG F sc_law_is_base_caught len fun cdv A outer s H hr => ?_
  have sc := sc_law_is_base_caught
  have gBadRows := X.g "BadRows" (by decide +kernel)
  have gTongueError := X.g "TongueError" (by decide +kernel)
  have TTongueError := X.x0 "TongueError" (by decide +kernel)
  obtain ⟨fI, fdI, TBadRows, GIBadRows, bIBadRows, kbIBadRows, noBadRows_row, noBadRows_word⟩ := I
  exact ⟨d_law_is_base_caught K, (eb_one (es_tryAs (i := 2) (c := .ref (He.ga K "TongueError")) rfl rfl sc.nd rfl rfl ⟨by rfl, by decide, .inl gTongueError⟩ (fun W pn xe tk po => (exb_one (ex_raise rfl tk (em_xi TBadRows GIBadRows (hr.r.mono (by decide)) pass0 bIBadRows rfl gBadRows (by rfl) (ea_cons (dv 0) (ea_cons (dv 1) ea_nil)))))) (fun a oe cls d pn hz hf => (eb_one (es_ret (ed_and (ed_callB (call_isD hz hf) src_isD (by rfl) z_isinstance (by decide +kernel) (ea_cons (dv 2) (ea_cons (ed_gref (by rfl) gBadRows) ea_nil))) (ed_and (ed_eq (ed_xf TBadRows.toXC noBadRows_row hz hf (dv 2)) (dv 0)) (ed_one (ed_eq (ed_xf TBadRows.toXC noBadRows_word hz hf (dv 2)) (dv 1)))))))))), fun ws O S h => rd ws O S h⟩
abbrev slaw : Stmt := topS 32
theorem sclaw : FnScope ["_law_script", "_law_number", "_law_made", "_law_text", "_law_row", "_law_word", "_law_at", "_law_e", "_law_base", "_law_other", "_law_k"] ["_law_script"] (defScope slaw) := ⟨rfl, rfl, rfl, by decide +kernel, rfl, by decide +kernel, by decide +kernel⟩
def dlaw_loop (K : PySem.W.Frag) : DTS := (dFor (diEnum (dCons (dVar 2) dNil)) (dgTup 2 (dgCons (dgName 6) (dgCons (dgName 7) dgNil))) (dSeq (dIf (dOr (dNot (dTest (dCB (rdIsO K) (dCons (dVar 7) (dCons (dC (.ref (He.ga K "TongueError"))) dNil))))) (dNot (dTest (dCB (rdIsO K) (dCons (dVar 7) (dCons (dC (.ty "ValueError")) dNil)))))) (dRet (dC (.bl false))) dNext)
    (dIf (dTest (dOp rdNeD (dCall (sp_flags K) (dCons (dVar 7) dNil)) (dLc (diR1 (dCons (dCB rdLen (dCons (dVar 2) dNil)) dNil)) (dgName 10) dYes (dOp rdEq (dVar 10) (dVar 6)) [10]))) (dRet (dC (.bl false))) dNext)))
def dlaw_0 (K : PySem.W.Frag) : DTS := (dPar 8 9 (dCons (dX0 (He.ga K "TongueError") (dCons (dVar 3) dNil)) (dCons (dXik (He.ga K "BadRows") "row" "word" kg2 (dCons (dVar 5) (dCons (dVar 4) dNil))) dNil)))
def dlaw_1 (K : PySem.W.Frag) : DTS := (dIf (dOr (dTest (dOp rdInQ (dC (.bl true)) (dCall (sp_flags K) (dCons (dVar 8) dNil)))) (dNot (dTest (dCB (rdIsO K) (dCons (dVar 8) (dCons (dC (.ty "ValueError")) dNil)))))) (dRet (dC (.bl false))) dNext)
def dlaw_2 (K : PySem.W.Frag) : DTS := (dIf (dTest (dOp rdNeD (dLst (dCons (dXo K "row" (dOp rdIxL (dVar 2) (dC (.int 3)))) (dCons (dXo K "word" (dOp rdIxL (dVar 2) (dC (.int 3)))) (dCons (dXo K "row" (dVar 9)) (dCons (dXo K "word" (dVar 9)) dNil))))) (dLst (dCons (dVar 4) (dCons (dVar 5) (dCons (dVar 4) (dCons (dVar 5) dNil))))))) (dRet (dC (.bl false))) dNext)
def dlaw_3 (K : PySem.W.Frag) : DTS := (dIf (dTest (dOp rdInQ (dC (.bl false)) (dLc (diL (dLst (dCons (dC (.int 0)) (dCons (dC (.int 1)) (dCons (dC (.int 2)) (dCons (dC (.int 4)) (dCons (dC (.int 5)) (dCons (dC (.int 25)) dNil)))))))) (dgName 6) dYes (dCall sp_caught (dCons (dVar 6) (dCons (dVar 3) dNil))) [6]))) (dRet (dC (.bl false))) dNext)
def dlaw_tail (K : PySem.W.Frag) : DTS := (dSeq (dlaw_0 K) (dSeq (dlaw_1 K) (dSeq (dlaw_2 K) (dSeq (dlaw_3 K) ((dRet (dCall sp_base (dCons (dVar 4) (dCons (dVar 5) dNil)))))))))
def dlaw_h0 (K : PySem.W.Frag) : DTS := (dSet 1 (dCB rdSum (dCons (dSlL (dVar 0) dNoPart (dPart (dC (.int 1)))) dNil)))
def dlaw_h1 (K : PySem.W.Frag) : DTS := (dAsg (dTup (dCons (dCatS (dC (.str "t")) (dCB rdStrI (dCons (dMod (dCB rdInt1 (dCons (dVar 1) dNil)) (dC (.int 1000))) dNil))) (dCons (dMod (dCB rdInt1 (dCons (dVar 1) dNil)) (dC (.int 997))) (dCons (dMod (dCB rdInt1 (dCons (dDiv (dVar 1) (dC (.int 7))) dNil)) (dC (.int 89))) dNil)))) (dgTup 3 (dgCons (dgName 3) (dgCons (dgName 4) (dgCons (dgName 5) dgNil)))))
def dlaw_h2 (K : PySem.W.Frag) : DTS := (dSet 2 (dLst (dCons (dX0 (He.ga K "BadBook") (dCons (dVar 3) dNil)) (dCons (dX0 (He.ga K "BadText") (dCons (dVar 3) dNil)) (dCons (dX0 (He.ga K "BadSide") (dCons (dVar 3) dNil)) (dCons (dXi (He.ga K "BadRows") "row" "word" (dCons (dVar 4) (dCons (dVar 5) dNil))) (dCons (dX0 (He.ga K "BadNumber") (dCons (dVar 3) dNil)) (dCons (dX0 (He.ga K "BadName") (dCons (dVar 3) dNil)) (dCons (dX0 (He.ga K "BadForm") (dCons (dVar 3) dNil)) dNil)))))))))
def dlaw_h3 (K : PySem.W.Frag) : DTS := (dSet 2 (dCatL (dVar 2) (dLst (dCons (dX0 (He.ga K "BadWord") (dCons (dVar 3) dNil)) (dCons (dX0 (He.ga K "BadReading") (dCons (dVar 3) dNil)) (dCons (dX0 (He.ga K "BadPaper") (dCons (dVar 3) dNil)) (dCons (dX0 (He.ga K "BadCount") (dCons (dVar 3) dNil)) (dCons (dX0 (He.ga K "BadLinks") (dCons (dVar 3) dNil)) (dCons (dX0 (He.ga K "NoPair") (dCons (dVar 3) dNil)) (dCons (dX0 (He.ga K "BadPlace") (dCons (dVar 3) dNil)) dNil))))))))))
def dlaw_h4 (K : PySem.W.Frag) : DTS := (dSet 2 (dCatL (dVar 2) (dLst (dCons (dX0 (He.ga K "BadOrder") (dCons (dVar 3) dNil)) (dCons (dX0 (He.ga K "BadWorld") (dCons (dVar 3) dNil)) (dCons (dX0 (He.ga K "BadTerm") (dCons (dVar 3) dNil)) (dCons (dX0 (He.ga K "BadKind") (dCons (dVar 3) dNil)) (dCons (dX0 (He.ga K "BadNumbers") (dCons (dVar 3) dNil)) (dCons (dX0 (He.ga K "BadExamples") (dCons (dVar 3) dNil)) dNil)))))))))
def dlaw_h5 (K : PySem.W.Frag) : DTS := (dSet 2 (dCatL (dVar 2) (dLst (dCons (dX0 (He.ga K "BadRule") (dCons (dVar 3) dNil)) (dCons (dX0 (He.ga K "Needed") (dCons (dVar 3) dNil)) (dCons (dX0 (He.ga K "NothingToUndo") (dCons (dVar 3) dNil)) (dCons (dX0 (He.ga K "Full") (dCons (dVar 3) dNil)) (dCons (dX0 (He.ga K "BadCommand") (dCons (dVar 3) dNil)) (dCons (dX0 (He.ga K "TooMany") (dCons (dVar 3) dNil)) dNil)))))))))
def dlaw (K : PySem.W.Frag) : DTS := (dSeq (dlaw_h0 K) (dSeq (dlaw_h1 K) (dSeq (dlaw_h2 K) (dSeq (dlaw_h3 K) (dSeq (dlaw_h4 K) (dSeq (dlaw_h5 K) (dSeq (dlaw_loop K) (dlaw_tail K))))))))
theorem oklaw {f : Addr} {fd : FuncData} (F : FnP K "law" slaw f fd) (X : Fx K mg) (I : Ini P w K mg base) (z_sum : mg "sum" = none) (z_enumerate : mg "enumerate" = none) (z_str : mg "str" = none) (z_int : mg "int" = none) (z_isinstance : mg "isinstance" = none) (z_range : mg "range" = none) (z_len : mg "len" = none) (z_ValueError : mg "ValueError" = none) {f_law_is_base_caught : Addr} {fd_law_is_base_caught : FuncData} (G_law_is_base_caught : FnG P w K mg base 3 f_law_is_base_caught fd_law_is_base_caught ["_law_row", "_law_word"] sp_base) (g_law_is_base_caught : mg "_law_is_base_caught" = some (.ref f_law_is_base_caught)) (k_law_is_base_caught : PySem.W.keepIn K (.ref f_law_is_base_caught) = true) (b_law_is_base_caught : Binds K fd_law_is_base_caught ["_law_row", "_law_word"] []) {f_law_flags : Addr} {fd_law_flags : FuncData} (G_law_flags : FnG P w K mg base 1 f_law_flags fd_law_flags ["_law_e"] (sp_flags K)) (g_law_flags : mg "_law_flags" = some (.ref f_law_flags)) (k_law_flags : PySem.W.keepIn K (.ref f_law_flags) = true) (b_law_flags : Binds K fd_law_flags ["_law_e"] []) {f_law_is_caught : Addr} {fd_law_is_caught : FuncData} (G_law_is_caught : FnG P w K mg base 1 f_law_is_caught fd_law_is_caught ["_law_number", "_law_text"] sp_caught) (g_law_is_caught : mg "_law_is_caught" = some (.ref f_law_is_caught)) (k_law_is_caught : PySem.W.keepIn K (.ref f_law_is_caught) = true) (b_law_is_caught : Binds K fd_law_is_caught ["_law_number", "_law_text"] [])
    (len : ∀ ws O S, sp_law ws O S → ws.length = 1) (rd : ∀ ws O S, sp_law ws O S → dlaw K (outD S) (startD ["_law_script", "_law_number", "_law_made", "_law_text", "_law_row", "_law_word", "_law_at", "_law_e", "_law_base", "_law_other", "_law_k"] ws) O) : FnG P w K mg base 4 f fd ["_law_script"] sp_law := by
  refine FunG F sclaw len fun cdv A outer s H hr => ?_
  have sc := sclaw
  have gBadBook := X.g "BadBook" (by decide +kernel)
  have TBadBook := X.x0 "BadBook" (by decide +kernel)
  have gBadText := X.g "BadText" (by decide +kernel)
  have TBadText := X.x0 "BadText" (by decide +kernel)
  have gBadSide := X.g "BadSide" (by decide +kernel)
  have TBadSide := X.x0 "BadSide" (by decide +kernel)
  have gBadRows := X.g "BadRows" (by decide +kernel)
  have gBadNumber := X.g "BadNumber" (by decide +kernel)
  have TBadNumber := X.x0 "BadNumber" (by decide +kernel)
  have gBadName := X.g "BadName" (by decide +kernel)
  have TBadName := X.x0 "BadName" (by decide +kernel)
  have gBadForm := X.g "BadForm" (by decide +kernel)
  have TBadForm := X.x0 "BadForm" (by decide +kernel)
  have gBadWord := X.g "BadWord" (by decide +kernel)
  have TBadWord := X.x0 "BadWord" (by decide +kernel)
  have gBadReading := X.g "BadReading" (by decide +kernel)
  have TBadReading := X.x0 "BadReading" (by decide +kernel)
  have gBadPaper := X.g "BadPaper" (by decide +kernel)
  have TBadPaper := X.x0 "BadPaper" (by decide +kernel)
  have gBadCount := X.g "BadCount" (by decide +kernel)
  have TBadCount := X.x0 "BadCount" (by decide +kernel)
  have gBadLinks := X.g "BadLinks" (by decide +kernel)
  have TBadLinks := X.x0 "BadLinks" (by decide +kernel)
  have gNoPair := X.g "NoPair" (by decide +kernel)
  have TNoPair := X.x0 "NoPair" (by decide +kernel)
  have gBadPlace := X.g "BadPlace" (by decide +kernel)
  have TBadPlace := X.x0 "BadPlace" (by decide +kernel)
  have gBadOrder := X.g "BadOrder" (by decide +kernel)
  have TBadOrder := X.x0 "BadOrder" (by decide +kernel)
  have gBadWorld := X.g "BadWorld" (by decide +kernel)
  have TBadWorld := X.x0 "BadWorld" (by decide +kernel)
  have gBadTerm := X.g "BadTerm" (by decide +kernel)
  have TBadTerm := X.x0 "BadTerm" (by decide +kernel)
  have gBadKind := X.g "BadKind" (by decide +kernel)
  have TBadKind := X.x0 "BadKind" (by decide +kernel)
  have gBadNumbers := X.g "BadNumbers" (by decide +kernel)
  have TBadNumbers := X.x0 "BadNumbers" (by decide +kernel)
  have gBadExamples := X.g "BadExamples" (by decide +kernel)
  have TBadExamples := X.x0 "BadExamples" (by decide +kernel)
  have gBadRule := X.g "BadRule" (by decide +kernel)
  have TBadRule := X.x0 "BadRule" (by decide +kernel)
  have gNeeded := X.g "Needed" (by decide +kernel)
  have TNeeded := X.x0 "Needed" (by decide +kernel)
  have gNothingToUndo := X.g "NothingToUndo" (by decide +kernel)
  have TNothingToUndo := X.x0 "NothingToUndo" (by decide +kernel)
  have gFull := X.g "Full" (by decide +kernel)
  have TFull := X.x0 "Full" (by decide +kernel)
  have gBadCommand := X.g "BadCommand" (by decide +kernel)
  have TBadCommand := X.x0 "BadCommand" (by decide +kernel)
  have gTooMany := X.g "TooMany" (by decide +kernel)
  have TTooMany := X.x0 "TooMany" (by decide +kernel)
  have gTongueError := X.g "TongueError" (by decide +kernel)
  have TTongueError := X.x0 "TongueError" (by decide +kernel)
  obtain ⟨fI, fdI, TBadRows, GIBadRows, bIBadRows, kbIBadRows, noBadRows_row, noBadRows_word⟩ := I
  exact ⟨dlaw K, (eb_cons (es_set (i := 1) sc.nd rfl (by first | exact Or.inl rfl | exact Or.inr rfl) (ed_callB (cr_sum rfl) src_sum (by rfl) z_sum (by decide +kernel) (ea_cons (ed_slL (dv 0) eo_none (eo_some ed_int)) ea_nil)))
      (eb_cons (es_asg (ed_tup (ea_cons (ed_catS ed_str (ed_callTy call_str_int src_strI (by rfl) z_str (by decide +kernel) (ea_cons (ed_mod (ed_callTy call_int1 src_int1 (by rfl) z_int (by decide +kernel) (ea_cons (dv 1) ea_nil)) ed_int) ea_nil))) (ea_cons (ed_mod (ed_callTy call_int1 src_int1 (by rfl) z_int (by decide +kernel) (ea_cons (dv 1) ea_nil)) ed_int) (ea_cons (ed_mod (ed_callTy call_int1 src_int1 (by rfl) z_int (by decide +kernel) (ea_cons (ed_div (dv 1) ed_int) ea_nil)) ed_int) ea_nil)))) (eg_tup rfl (egs_cons (eg_name (i := 3) sc.nd rfl (by first | exact Or.inl rfl | exact Or.inr rfl)) (egs_cons (eg_name (i := 4) sc.nd rfl (by first | exact Or.inl rfl | exact Or.inr rfl)) (egs_cons (eg_name (i := 5) sc.nd rfl (by first | exact Or.inl rfl | exact Or.inr rfl)) egs_nil)))))
      (eb_cons (es_set (i := 2) sc.nd rfl (by first | exact Or.inl rfl | exact Or.inr rfl) (ed_lst (ea_cons (ed_x0 TBadBook gBadBook (by rfl) (ea_cons (dv 3) ea_nil)) (ea_cons (ed_x0 TBadText gBadText (by rfl) (ea_cons (dv 3) ea_nil)) (ea_cons (ed_x0 TBadSide gBadSide (by rfl) (ea_cons (dv 3) ea_nil)) (ea_cons (ed_xi TBadRows GIBadRows (hr.r.mono (by decide)) pass0 bIBadRows rfl gBadRows (by rfl) (ea_cons (dv 4) (ea_cons (dv 5) ea_nil))) (ea_cons (ed_x0 TBadNumber gBadNumber (by rfl) (ea_cons (dv 3) ea_nil)) (ea_cons (ed_x0 TBadName gBadName (by rfl) (ea_cons (dv 3) ea_nil)) (ea_cons (ed_x0 TBadForm gBadForm (by rfl) (ea_cons (dv 3) ea_nil)) ea_nil)))))))))
      (eb_cons (es_set (i := 2) sc.nd rfl (by first | exact Or.inl rfl | exact Or.inr rfl) (ed_catL (dv 2) (ed_lst (ea_cons (ed_x0 TBadWord gBadWord (by rfl) (ea_cons (dv 3) ea_nil)) (ea_cons (ed_x0 TBadReading gBadReading (by rfl) (ea_cons (dv 3) ea_nil)) (ea_cons (ed_x0 TBadPaper gBadPaper (by rfl) (ea_cons (dv 3) ea_nil)) (ea_cons (ed_x0 TBadCount gBadCount (by rfl) (ea_cons (dv 3) ea_nil)) (ea_cons (ed_x0 TBadLinks gBadLinks (by rfl) (ea_cons (dv 3) ea_nil)) (ea_cons (ed_x0 TNoPair gNoPair (by rfl) (ea_cons (dv 3) ea_nil)) (ea_cons (ed_x0 TBadPlace gBadPlace (by rfl) (ea_cons (dv 3) ea_nil)) ea_nil))))))))))
      (eb_cons (es_set (i := 2) sc.nd rfl (by first | exact Or.inl rfl | exact Or.inr rfl) (ed_catL (dv 2) (ed_lst (ea_cons (ed_x0 TBadOrder gBadOrder (by rfl) (ea_cons (dv 3) ea_nil)) (ea_cons (ed_x0 TBadWorld gBadWorld (by rfl) (ea_cons (dv 3) ea_nil)) (ea_cons (ed_x0 TBadTerm gBadTerm (by rfl) (ea_cons (dv 3) ea_nil)) (ea_cons (ed_x0 TBadKind gBadKind (by rfl) (ea_cons (dv 3) ea_nil)) (ea_cons (ed_x0 TBadNumbers gBadNumbers (by rfl) (ea_cons (dv 3) ea_nil)) (ea_cons (ed_x0 TBadExamples gBadExamples (by rfl) (ea_cons (dv 3) ea_nil)) ea_nil)))))))))
      (eb_cons (es_set (i := 2) sc.nd rfl (by first | exact Or.inl rfl | exact Or.inr rfl) (ed_catL (dv 2) (ed_lst (ea_cons (ed_x0 TBadRule gBadRule (by rfl) (ea_cons (dv 3) ea_nil)) (ea_cons (ed_x0 TNeeded gNeeded (by rfl) (ea_cons (dv 3) ea_nil)) (ea_cons (ed_x0 TNothingToUndo gNothingToUndo (by rfl) (ea_cons (dv 3) ea_nil)) (ea_cons (ed_x0 TFull gFull (by rfl) (ea_cons (dv 3) ea_nil)) (ea_cons (ed_x0 TBadCommand gBadCommand (by rfl) (ea_cons (dv 3) ea_nil)) (ea_cons (ed_x0 TTooMany gTooMany (by rfl) (ea_cons (dv 3) ea_nil)) ea_nil)))))))))
      (eb_cons (es_for PassesOwn.never rfl (ei_enum (by rfl) z_enumerate (ea_cons (dv 2) ea_nil)) (eg_tup rfl (egs_cons (eg_name (i := 6) sc.nd rfl (by first | exact Or.inl rfl | exact Or.inr rfl)) (egs_cons (eg_name (i := 7) sc.nd rfl (by first | exact Or.inl rfl | exact Or.inr rfl)) egs_nil))) (eb_cons (es_if (ew_or (et_not (et_val (ed_callB call_isO src_isO (by rfl) z_isinstance (by decide +kernel) (ea_cons (dv 7) (ea_cons (ed_gref (by rfl) gTongueError) ea_nil))))) (ew_or1 (et_not (et_val (ed_callB call_isO src_isO (by rfl) z_isinstance (by decide +kernel) (ea_cons (dv 7) (ea_cons (ed_bltn (by rfl) z_ValueError (by decide +kernel)) ea_nil))))))).t (eb_one (es_ret ed_bl)) eb_nil)
      (eb_one (es_if (et_neD (hu64 hr) (ed_call G_law_flags (hr.mono (by decide)) (by rfl) g_law_flags k_law_flags b_law_flags (ea_cons (dv 7) ea_nil)) (ed_lc rfl sc.nd (own := [("_law_k", 10)]) (ei_range1 (by rfl) z_range (ea_cons (ed_callB call_len_seq src_len (by rfl) z_len PySem.boot_len (ea_cons (dv 2) ea_nil)) ea_nil)) (blkOk_by (N := ["_law_script", "_law_number", "_law_made", "_law_text", "_law_row", "_law_word", "_law_at", "_law_e", "_law_base", "_law_other", "_law_k"]) (sc := defScope slaw) (by decide +kernel)) (fun _ _ _ _ _ => (egc_name (i := 10) (by decide) sc.nd rfl (by first | exact Or.inl rfl | exact Or.inr rfl))) (fun _ _ _ _ _ => ets_nil) (fun _ _ _ _ _ => (ed_eq (dv 10) (dv 6))))) (eb_one (es_ret ed_bl)) eb_nil))))
      (eb_cons (es_par (i := 8) (j := 9) rfl sc.nd rfl rfl (by decide) rfl rfl (ea_cons (ed_x0 TTongueError gTongueError (by rfl) (ea_cons (dv 3) ea_nil)) (ea_cons (ed_xik TBadRows GIBadRows (hr.r.mono (by decide)) pass0 rfl kbIBadRows gBadRows (by rfl) (ek_cons (dv 5) (ek_cons (dv 4) ek_nil)) (fun _ _ => rfl) (fun _ _ => rfl) kb2) ea_nil)))
      (eb_cons (es_if (ew_or (et_inQ ed_bl (ed_call G_law_flags (hr.mono (by decide)) (by rfl) g_law_flags k_law_flags b_law_flags (ea_cons (dv 8) ea_nil))) (ew_or1 (et_not (et_val (ed_callB call_isO src_isO (by rfl) z_isinstance (by decide +kernel) (ea_cons (dv 8) (ea_cons (ed_bltn (by rfl) z_ValueError (by decide +kernel)) ea_nil))))))).t (eb_one (es_ret ed_bl)) eb_nil)
      (eb_cons (es_if (et_neD (hu64 hr) (ed_lst (ea_cons (ed_xo (ed_ixL (dv 2) ed_int)) (ea_cons (ed_xo (ed_ixL (dv 2) ed_int)) (ea_cons (ed_xo (dv 9)) (ea_cons (ed_xo (dv 9)) ea_nil))))) (ed_lst (ea_cons (dv 4) (ea_cons (dv 5) (ea_cons (dv 4) (ea_cons (dv 5) ea_nil)))))) (eb_one (es_ret ed_bl)) eb_nil)
      (eb_cons (es_if (et_inQ ed_bl (ed_lc rfl sc.nd (own := [("_law_at", 6)]) (ei_lst (ed_lst (ea_cons ed_int (ea_cons ed_int (ea_cons ed_int (ea_cons ed_int (ea_cons ed_int (ea_cons ed_int ea_nil)))))))) (blkOk_by (N := ["_law_script", "_law_number", "_law_made", "_law_text", "_law_row", "_law_word", "_law_at", "_law_e", "_law_base", "_law_other", "_law_k"]) (sc := defScope slaw) (by decide +kernel)) (fun _ _ _ _ _ => (egc_name (i := 6) (by decide) sc.nd rfl (by first | exact Or.inl rfl | exact Or.inr rfl))) (fun _ _ _ _ _ => ets_nil) (fun _ _ _ _ _ => (ed_call G_law_is_caught (hr.mono (by decide)) (by rfl) g_law_is_caught k_law_is_caught b_law_is_caught (ea_cons (dv 6) (ea_cons (dv 3) ea_nil)))))) (eb_one (es_ret ed_bl)) eb_nil)
      (eb_one (es_ret (ed_call G_law_is_base_caught (hr.mono (by decide)) (by rfl) g_law_is_base_caught k_law_is_base_caught b_law_is_base_caught (ea_cons (dv 4) (ea_cons (dv 5) ea_nil)))))))))))))))), fun ws O S h => rd ws O S h⟩
end
end K00

set_option Elab.async false
set_option linter.all false
set_option maxRecDepth 100000
set_option maxHeartbeats 4000000
/-! k00: the readings. -/
namespace K00
open PySem PySem.Spec PyProof.Rows L2 Dm
variable {K : PySem.W.Frag} {mg : Str → Option Value}
theorem ex (X : Fx K mg) (i j : Nat) {x y : Str} (h1 : cls[i]? = some x := by rfl) (h2 : cls[j]? = some y := by rfl) : PySem.W.exmOne K (.ref (He.ga K x)) (.ref (He.ga K y)) = some (i == j) := X.exm i j x y h1 h2
theorem Ext.refl {O : Sto} : Ext O O := ⟨[], by simp⟩
theorem Ext.app {O O' : Sto} (h : Ext O O') (ys : Sto) : Ext O (O' ++ ys) := by
  obtain ⟨zs, rfl⟩ := h
  exact ⟨zs ++ ys, by simp⟩
theorem iteT {p q : Prop} (h : p) : if true = true then p else q := by rw [if_pos rfl]; exact h
theorem one_le : 1 ≤ sizeLine := by rw [sizeLine_eq]; decide
theorem five_le : 5 ≤ sizeLine := by rw [sizeLine_eq]; decide
theorem caught_at (X : Fx K mg) (i : Nat) (n : Str) (hi : cls[i]? = some n) (j : Nat) (m : Str) (hj : cls[j]? = some m) : PySem.W.exmOne K (.ref (He.ga K n)) (.ref (He.ga K m)) = some (i == j) := X.exm i j n m hi hj
theorem rd_caught (X : Fx K mg) (ws : List W) (O : Sto) (S : WK) (h : sp_caught ws O S) : d_law_is_caught K (outD S) (startD ["_law_number", "_law_text"] ws) O := by
  obtain ⟨n, t, rfl, hn, fin⟩ := h
  have fin0 := fin O ⟨[], by simp⟩
  have e := fun i n hi j m hj => caught_at X i n hi j m hj
  have e00 := e 0 "BadBook" rfl 0 "BadBook" rfl
  have e10 := e 1 "BadText" rfl 0 "BadBook" rfl
  have e11 := e 1 "BadText" rfl 1 "BadText" rfl
  have e20 := e 2 "BadSide" rfl 0 "BadBook" rfl
  have e21 := e 2 "BadSide" rfl 1 "BadText" rfl
  have e22 := e 2 "BadSide" rfl 2 "BadSide" rfl
  have e40 := e 4 "BadNumber" rfl 0 "BadBook" rfl
  have e41 := e 4 "BadNumber" rfl 1 "BadText" rfl
  have e42 := e 4 "BadNumber" rfl 2 "BadSide" rfl
  have e44 := e 4 "BadNumber" rfl 4 "BadNumber" rfl
  have e50 := e 5 "BadName" rfl 0 "BadBook" rfl
  have e51 := e 5 "BadName" rfl 1 "BadText" rfl
  have e52 := e 5 "BadName" rfl 2 "BadSide" rfl
  have e54 := e 5 "BadName" rfl 4 "BadNumber" rfl
  have e55 := e 5 "BadName" rfl 5 "BadName" rfl
  have e250 := e 25 "TooMany" rfl 0 "BadBook" rfl
  have e251 := e 25 "TooMany" rfl 1 "BadText" rfl
  have e252 := e 25 "TooMany" rfl 2 "BadSide" rfl
  have e254 := e 25 "TooMany" rfl 4 "BadNumber" rfl
  have e255 := e 25 "TooMany" rfl 5 "BadName" rfl
  have e2525 := e 25 "TooMany" rfl 25 "TooMany" rfl
  have fl := fin _ ⟨[.lst [.int 0, .int 1, .int 2, .int 4, .int 5]], rfl⟩
  simp only [List.mem_cons, List.not_mem_nil, or_false] at hn
  rcases hn with rfl | rfl | rfl | rfl | rfl | rfl
  · simp [d_law_is_caught, dTry, dxSeq, dxIf, dTest, dOp, dVar, dC, startD, rdEq, eqS, dRaise, dM0, dCons, dNil, dHs, e00, dRet, one_le, fin0, outD]
  · simp [d_law_is_caught, dTry, dxSeq, dxIf, dTest, dOp, dVar, dC, startD, rdEq, eqS, dRaise, dM0, dCons, dNil, dHs, e10, e11, dRet, one_le, fin0, outD, dxOf, dNext]
  · simp [d_law_is_caught, dTry, dxSeq, dxIf, dTest, dOp, dVar, dC, startD, rdEq, eqS, dRaise, dM0, dCons, dNil, dHs, e20, e21, e22, dRet, one_le, fin0, outD, dxOf, dNext]
  · simp [d_law_is_caught, dTry, dxSeq, dxIf, dTest, dOp, dVar, dC, startD, rdEq, eqS, dRaise, dM0, dCons, dNil, dHs, e40, e41, e42, e44, dRet, one_le, fin0, outD, dxOf, dNext]
  · simp [d_law_is_caught, dTry, dxSeq, dxIf, dTest, dOp, dVar, dC, startD, rdEq, eqS, dRaise, dM0, dCons, dNil, dHs, e50, e51, e52, e54, e55, dRet, one_le, fin0, outD, dxOf, dNext]
  · simp [d_law_is_caught, dTry, dxSeq, dxIf, dTest, dOp, dVar, dC, startD, rdEq, eqS, dRaise, dM0, dCons, dNil, dHs, e250, e251, e252, e254, e255, e2525, dRet, one_le, outD, dxOf, dNext, dLst, five_le, rdNinQ, LstC, flatW]
    exact fl
theorem rd_base (X : Fx K mg) (T : XC K (He.ga K "BadRows")) (ws : List W) (O : Sto) (S : WK) (h : sp_base ws O S) : d_law_is_base_caught K (outD S) (startD ["_law_row", "_law_word", "_law_e"] ws) O := by
  obtain ⟨r, w, rfl, fin⟩ := h
  refine ⟨_, rfl, _, rfl, _, _, rfl, X.exmT, fun a d => ?_⟩
  have e33 := X.kit 3 3 "BadRows" "BadRows" rfl rfl
  have fl := fin _ ⟨[.xd [("word", .int w), ("row", .int r)]], rfl⟩
  have l1 : List.lookup ("row" : Str) [(("word" : Str), W.int w), ("row", .int r)] = some (.int r) := by
    rw [lookC, if_neg (by decide), lookC, if_pos rfl]
  have l2 : List.lookup ("word" : Str) [(("word" : Str), W.int w), ("row", .int r)] = some (.int w) := by
    rw [lookC, if_pos rfl]
  have g : (O ++ [Cell.xd [("word", .int w), ("row", .int r)]])[O.length]? = some (.xd [("word", .int w), ("row", .int r)]) := by simp
  have i1 : eqS (.int r) (.int r) = some true := by simp [eqS]
  have i2 : eqS (.int w) (.int w) = some true := by simp [eqS]
  refine ⟨_, rfl, He.ga K "BadRows", some O.length, _, _, true, rfl, rfl, .inr ⟨_, _, rfl, g⟩, T, rfl, e33, true, rfl, iteT ?_⟩
  refine ⟨_, rfl, O.length, _, _, rfl, rfl, g, l1, _, rfl, true, i1, true, rfl, iteT ?_⟩
  exact ⟨_, rfl, O.length, _, _, rfl, rfl, g, l2, _, rfl, true, i2, fl⟩
theorem cat_le {a b : Nat} (h : a + b ≤ 100000) : a + b ≤ sizeLine := by rw [sizeLine_eq]; omega
theorem len_le {a : Nat} (h : a ≤ 100000) : a ≤ sizeLine := by rw [sizeLine_eq]; omega
/-- isinstance asked of each of the names -/
def flags0 (K : PySem.W.Frag) : List Str → DA
  | [] => dNil
  | x :: r => dCons (dCB (rdIsO K) (dCons (dVar 0) (dCons (dC (.ref (He.ga K x))) dNil))) (flags0 K r)
@[irreducible] def flagsA (K : PySem.W.Frag) (l : List Str) : DA := flags0 K l
def kb (K : PySem.W.Frag) (D : Addr) (x : Str) : Bool := (PySem.W.kitOne K (.ref D) (.ref (He.ga K x))).getD false
theorem flags_ok0 {D : Addr} {k : Nat} (xc : XC K D) {δ : DS} (h0 : δ[0]? = some (some (.cell k))) {O : Sto} (hx : XcAt O k D) : ∀ (xs : List Str) (S : List W → Sto → Prop), (∀ x ∈ xs, PySem.W.kitOne K (.ref D) (.ref (He.ga K x)) = some (kb K D x)) → S (xs.map fun x => W.bl (kb K D x)) O → flags0 K xs δ O S
  | [], S, _, q => q
  | x :: r, S, h, q => ⟨_, h0, k, D, _, _, _, rfl, hx, xc, rfl, h x List.mem_cons_self, flags_ok0 xc h0 hx r _ (fun y hy => h y (List.mem_cons_of_mem _ hy)) q⟩
theorem flags_ok {D : Addr} {k : Nat} (xc : XC K D) {δ : DS} (h0 : δ[0]? = some (some (.cell k))) {O : Sto} (hx : XcAt O k D) (xs : List Str) (S : List W → Sto → Prop) (h : ∀ x ∈ xs, PySem.W.kitOne K (.ref D) (.ref (He.ga K x)) = some (kb K D x)) (q : S (xs.map fun x => W.bl (kb K D x)) O) : flagsA K xs δ O S := by
  unfold flagsA
  exact flags_ok0 xc h0 hx xs S h q
def d_fl (K : PySem.W.Frag) : DTS := dSeq (dSet 1 (dLst (flagsA K ["BadBook", "BadText", "BadSide", "BadRows", "BadNumber"])))
    (dSeq (dSet 1 (dCatL (dVar 1) (dLst (flagsA K ["BadName", "BadForm", "BadWord", "BadReading"]))))
    (dSeq (dSet 1 (dCatL (dVar 1) (dLst (flagsA K ["BadPaper", "BadCount", "BadLinks", "NoPair"]))))
    (dSeq (dSet 1 (dCatL (dVar 1) (dLst (flagsA K ["BadPlace", "BadOrder", "BadWorld", "BadTerm"]))))
    (dSeq (dSet 1 (dCatL (dVar 1) (dLst (flagsA K ["BadKind", "BadNumbers", "BadExamples", "BadRule"]))))
    (dSeq (dSet 1 (dCatL (dVar 1) (dLst (flagsA K ["Needed", "NothingToUndo", "Full", "BadCommand"]))))
    (dRet (dCatL (dVar 1) (dLst (flagsA K ["TooMany"])))))))))
theorem d_fl_eq : d_law_flags K = d_fl K := by
  unfold d_fl flagsA
  rfl
theorem st_lst {i : Nat} {wa : DA} {w2 : DTS} {D : DEnds} {δ : DS} {O : Sto} (h : wa δ O fun ws O1 => ws.length ≤ sizeLine ∧ w2 D (δ.set i (some (.cell O1.length))) (O1 ++ [.lst ws])) : dSeq (dSet i (dLst wa)) w2 D δ O := h
theorem cat_ok {O : Sto} {k : Nat} {xs ws : List W} {S : WK} (hk : O[k]? = some (.lst xs)) (hw : ws.length ≤ sizeLine) (hl : xs.length + ws.length ≤ sizeLine) (h : S (.cell (O.length + 1)) (O ++ [.lst ws] ++ [.lst (xs ++ ws)])) :
    ws.length ≤ sizeLine ∧ rdCatL (.cell k) (.cell O.length) (O ++ [.lst ws]) S := by
  have e : (O ++ [Cell.lst ws]).length = O.length + 1 := by simp
  refine ⟨hw, k, O.length, xs, ws, rfl, rfl, ?_, by simp, hl, ?_⟩
  · rw [List.getElem?_append_left (List.getElem?_eq_some_iff.mp hk).1]
    exact hk
  · rw [e]
    exact h
theorem st_cat {i j : Nat} {D' : Addr} {k0 : Nat} (xc : XC K D') {names : List Str} {w2 : DTS} {D : DEnds} {δ : DS} {O : Sto} {k : Nat} {xs : List W} (h0 : δ[0]? = some (some (.cell k0))) (hx : XcAt O k0 D') (hn : ∀ x ∈ names, PySem.W.kitOne K (.ref D') (.ref (He.ga K x)) = some (kb K D' x))
    (hj : δ[j]? = some (some (.cell k))) (hk : O[k]? = some (.lst xs)) (hw : names.length ≤ 1000) (hl : xs.length ≤ 1000)
    (h : w2 D (δ.set i (some (.cell (O.length + 1)))) (O ++ [.lst (names.map fun x => W.bl (kb K D' x))] ++ [.lst (xs ++ names.map fun x => W.bl (kb K D' x))])) : dSeq (dSet i (dCatL (dVar j) (dLst (flagsA K names)))) w2 D δ O :=
  ⟨_, hj, flags_ok xc h0 hx _ _ hn (cat_ok hk (len_le (by rw [List.length_map]; omega)) (len_le (by rw [List.length_map]; omega)) h)⟩
theorem rd_flags (X : Fx K mg) (ws : List W) (O : Sto) (S : WK) (h : sp_flags K ws O S) : d_law_flags K (outD S) (startD ["_law_e", "_law_first"] ws) O := by
  obtain ⟨k, D, bs, rfl, hx, xc, hk, fin⟩ := h
  have hkb : ∀ x ∈ cls, PySem.W.kitOne K (.ref D) (.ref (He.ga K x)) = some (kb K D x) := fun x hm => by
    obtain ⟨i, hi⟩ := List.getElem?_of_mem hm
    have e := hk i x hi
    unfold kb
    rw [e]
    rfl
  have hs : ∀ xs : List Str, (∀ x ∈ xs, x ∈ cls) → ∀ x ∈ xs, PySem.W.kitOne K (.ref D) (.ref (He.ga K x)) = some (kb K D x) := fun xs h x hm => hkb x (h x hm)
  have he : cls.map (fun x => W.bl (kb K D x)) = (List.range 26).map fun i => W.bl (bs i) := by
    refine List.ext_getElem? fun i => ?_
    rw [List.getElem?_map, List.getElem?_map]
    by_cases hi : i < 26
    · have hc : i < cls.length := hi
      rw [List.getElem?_eq_getElem hc, List.getElem?_range hi]
      have e := hk i _ (List.getElem?_eq_getElem hc)
      show some (W.bl (kb K D _)) = some (W.bl (bs i))
      unfold kb
      rw [e]
      rfl
    · rw [List.getElem?_eq_none (by show 26 ≤ i; omega), List.getElem?_eq_none (by rw [List.length_range]; omega)]
      rfl
  rw [← he] at fin
  rw [d_fl_eq]
  unfold d_fl
  refine st_lst (flags_ok xc rfl hx _ _ (hs _ (by decide +kernel)) ⟨len_le (by rw [List.length_map]; decide), ?_⟩)
  have f1 : ∀ (Q : Sto) (a b : Cell), (Q ++ [a] ++ [b])[Q.length + 1]? = some b := fun Q a b => by simp
  have hm : ∀ xs : List Str, (xs.map fun x => W.bl (kb K D x)).length = xs.length := fun xs => List.length_map ..
  refine st_cat xc rfl (hx.app _) (hs _ (by decide +kernel)) rfl (by simp; rfl) (by decide) (by simp) ?_
  refine st_cat xc rfl (((hx.app _).app _).app _) (hs _ (by decide +kernel)) rfl (f1 _ _ _) (by decide) (by simp) ?_
  refine st_cat xc rfl (((((hx.app _).app _).app _).app _).app _) (hs _ (by decide +kernel)) rfl (f1 _ _ _) (by decide) (by simp) ?_
  refine st_cat xc rfl (((((((hx.app _).app _).app _).app _).app _).app _).app _) (hs _ (by decide +kernel)) rfl (f1 _ _ _) (by decide) (by simp) ?_
  refine st_cat xc rfl (((((((((hx.app _).app _).app _).app _).app _).app _).app _).app _).app _) (hs _ (by decide +kernel)) rfl (f1 _ _ _) (by decide) (by simp) ?_
  refine ⟨_, rfl, flags_ok xc rfl (((((((((((hx.app _).app _).app _).app _).app _).app _).app _).app _).app _).app _).app _) _ _ (hs _ (by decide +kernel)) (cat_ok (f1 _ _ _) (len_le (by simp)) (len_le (by simp)) ?_)⟩
  exact fin _ _ (by repeat (first | exact Ext.refl | refine Ext.app ?_ _)) ((f1 _ _ _).trans (by simp [cls]))
end K00

set_option Elab.async false
set_option linter.all false
set_option maxRecDepth 100000
set_option maxHeartbeats 1000000
/-! k00: the law's own reading. -/
namespace K00
open PySem PySem.Spec PyProof.Rows L2 Dm
variable {K : PySem.W.Frag} {mg : Str → Option Value}
theorem Ext.get {O O' : Sto} (h : Ext O O') {i : Nat} {c : Cell} (e : O[i]? = some c) : O'[i]? = some c := by
  obtain ⟨zs, rfl⟩ := h
  rw [List.getElem?_append_left (List.getElem?_eq_some_iff.mp e).1]
  exact e
theorem Ext.trans {O O1 O2 : Sto} (h : Ext O O1) (h2 : Ext O1 O2) : Ext O O2 := by
  obtain ⟨zs, rfl⟩ := h
  obtain ⟨ys, rfl⟩ := h2
  exact ⟨zs ++ ys, by simp⟩
theorem Ext.xc {O O' : Sto} (h : Ext O O') {k : Nat} {D : Addr} (e : XcAt O k D) : XcAt O' k D := by
  obtain ⟨zs, rfl⟩ := h
  exact e.app zs
/-- the made errors stand in the store -/
structure Md (K : PySem.W.Frag) (O : Sto) (made : List W) (row word : Int) : Prop where
  lst : O[35]? = some (.lst made)
  at_ : ∀ (i : Nat) (x : Str), cls[i]? = some x → ∃ k, made[i]? = some (.cell k) ∧ XcAt O k (He.ga K x)
  len : made.length = 26
  m3 : made[3]? = some (.cell 6)
  r6 : O[6]? = some (.exr (He.ga K "BadRows") 5)
  f5 : O[5]? = some (.exf [("word", .int word), ("row", .int row)])
theorem Md.ext {O O' : Sto} {made : List W} {row word : Int} (m : Md K O made row word) (h : Ext O O') : Md K O' made row word :=
  ⟨h.get m.lst, fun i x e => let ⟨k, a, b⟩ := m.at_ i x e; ⟨k, a, h.xc b⟩, m.len, m.m3, h.get m.r6, h.get m.f5⟩
/-- the class of each -/
theorem xcOf (X : Fx K mg) (T : XC K (He.ga K "BadRows")) (i : Nat) (x : Str) (h : cls[i]? = some x) : XC K (He.ga K x) := by
  by_cases e : i = 3
  · subst e
    cases h
    exact T
  · refine (X.x0 x ?_).toXC
    refine List.mem_cons_of_mem _ (List.mem_of_getElem? (i := if i < 3 then i else i - 1) ?_)
    rw [List.getElem?_eraseIdx]
    by_cases q : i < 3
    · rw [if_pos q, if_pos q]
      exact h
    · rw [if_neg q, if_neg (by omega), show i - 1 + 1 = i by omega]
      exact h
/-- two lists of the same truths are equal -/
theorem dws_bls {O : Sto} {α : Type} (f : α → Bool) : ∀ l : List α, DWs O (l.map fun x => W.bl (f x)) (l.map fun x => PyData.bool (f x))
  | [] => .nil
  | x :: l => .cons (.bl _) (dws_bls f l)
theorem plain_bls {α : Type} (f : α → Bool) : ∀ l : List α, PyData.plainAll (l.map fun x => PyData.bool (f x)) = true
  | [] => rfl
  | x :: l => by
    show (PyData.plain (.bool (f x)) && PyData.plainAll _) = true
    rw [plain_bls f l]
    rfl
theorem depth_bls {α : Type} (f : α → Bool) : ∀ l : List α, PyData.depthAll (l.map fun x => PyData.bool (f x)) = 0
  | [] => rfl
  | x :: l => by
    show max (PyData.depth (.bool (f x))) (PyData.depthAll _) = 0
    rw [depth_bls f l]
    rfl
theorem ne_bls {O : Sto} {α : Type} {f : α → Bool} {l : List α} {k j : Nat} {S : WK} (hk : O[k]? = some (.lst (l.map fun x => W.bl (f x)))) (hj : O[j]? = some (.lst (l.map fun x => W.bl (f x)))) (h : S (.bl false) O) : rdNeD (.cell k) (.cell j) O S := by
  have p : PyData.plain (.list (l.map fun x => PyData.bool (f x))) = true := plain_bls f l
  refine ⟨.list (l.map fun x => .bool (f x)), .list (l.map fun x => .bool (f x)), .cell (.inl hk) ((dws_bls f l)), .cell (.inl hj) ((dws_bls f l)), p, p, ?_, ?_⟩
  · have e : PyData.depth (.list (l.map fun x => PyData.bool (f x))) = 1 := by
      show PyData.depthAll _ + 1 = 1
      rw [depth_bls f l]
    rw [e]
    decide
  · rw [PySem.SeqAt.eqv_refl_plain _ p]
    exact h
theorem Ext.len {O O' : Sto} (h : Ext O O') : O.length ≤ O'.length := by
  obtain ⟨zs, rfl⟩ := h
  rw [List.length_append]
  omega
theorem Ext.set {O O' : Sto} (h : Ext O O') {k : Nat} (hk : O.length ≤ k) {c : Cell} : Ext O (O'.set k c) := by
  obtain ⟨zs, rfl⟩ := h
  rw [List.set_append_right _ _ hk]
  exact ⟨_, rfl⟩
theorem iteF {p q : Prop} (h : q) : if (!true) = true then p else q := by rw [if_neg (by decide)]; exact h
theorem iteF0 {p q : Prop} (h : q) : if false = true then p else q := by rw [if_neg (by decide)]; exact h
structure Sl (δ : DS) (t : Str) (row word : Int) : Prop where
  len : δ.length = 11
  h2 : δ[2]? = some (some (.cell 35))
  h3 : δ[3]? = some (some (.str t))
  h4 : δ[4]? = some (some (.int row))
  h5 : δ[5]? = some (some (.int word))
theorem Sl.set {δ : DS} {t : Str} {row word : Int} (s : Sl δ t row word) {i : Nat} (h : 5 < i) {w : Option W} : Sl (δ.set i w) t row word := by
  refine ⟨by rw [List.length_set]; exact s.len, ?_, ?_, ?_, ?_⟩ <;> rw [List.getElem?_set_ne (by omega)]
  · exact s.h2
  · exact s.h3
  · exact s.h4
  · exact s.h5
theorem Sl.at_ {δ : DS} {t : Str} {row word : Int} (s : Sl δ t row word) {i : Nat} (h : i < 11) {w : Option W} : (δ.set i w)[i]? = some w := by
  rw [List.getElem?_set_self (by rw [s.len]; exact h)]
theorem at_eq (i j : Nat) : decide (((0 : Int) + (j : Int)) = (i : Int)) = (i == j) := by
  by_cases h : i = j
  · subst h
    simp
  · have h1 : (i == j) = false := by simpa using h
    rw [h1]
    exact decide_eq_false (by omega)
/-- [k == at for k in range(len(made))] -/
theorem rd_row {made : List W} {row word : Int} {t : Str} {δ : DS} {O : Sto} {i : Nat} {S : WK} (m : Md K O made row word) (s : Sl δ t row word) (h6 : δ[6]? = some (some (.int i)))
    (h : ∀ O', Ext O O' → O'[O.length]? = some (.lst ((List.range 26).map fun j => W.bl (i == j))) → S (.cell O.length) O') :
    dLc (diR1 (dCons (dCB rdLen (dCons (dVar 2) dNil)) dNil)) (dgName 10) dYes (dOp rdEq (dVar 10) (dVar 6)) [10] δ O S := by
  have hl := m.len
  have e26 : ((made.length : Int)).toNat = 26 := by omega
  refine ⟨_, s.h2, .inr ⟨35, made, rfl, .inl m.lst, _, rfl, by omega, by omega, ?_⟩⟩
  rw [e26]
  refine ⟨26, fun j O' => j ≤ 26 ∧ Ext O O' ∧ O'[O.length]? = some (.lst ((List.range j).map fun j => W.bl (i == j))), ⟨by omega, Ext.app Ext.refl _, by simp⟩, fun j O' hj => ?_⟩
  obtain ⟨hj, he, hc⟩ := hj
  refine ⟨hj, True.intro, ?_⟩
  by_cases hlt : j < 26
  · rw [show (wkR 0 26).at_ j O' = some (.int (0 + j)) from if_pos hlt]
    have s2 : Sl (wipeD δ [10]) t row word := s.set (by decide)
    refine ⟨hlt, ?_⟩
    show dOp rdEq (dVar 10) (dVar 6) ((wipeD δ [10]).set 10 (some (.int (0 + j)))) O' _
    refine ⟨_, s2.at_ (by decide), .int i, ?_, _, rfl, _, hc, ?_, ?_⟩
    · rw [List.getElem?_set_ne (by decide)]
      show (List.set δ 10 none)[6]? = _
      rw [List.getElem?_set_ne (by decide)]
      exact h6
    · rw [List.length_map, List.length_range, sizeLine_eq]
      omega
    · refine ⟨hlt, he.set (Nat.le_refl _), ?_⟩
      rw [List.getElem?_set_self (List.getElem?_eq_some_iff.mp hc).1, List.range_succ, List.map_append]
      rw [at_eq]
      rfl
  · rw [show (wkR 0 26).at_ j O' = none from if_neg hlt]
    have ej : j = 26 := by omega
    subst ej
    exact h O' he hc
theorem rd_loop (X : Fx K mg) (T : XC K (He.ga K "BadRows")) {made : List W} {row word : Int} {t : Str} {D : DEnds} {δ : DS} {O : Sto} (m : Md K O made row word) (s : Sl δ t row word)
    (fin : ∀ δ' O', Ext O O' → Sl δ' t row word → D.nx δ' O') : dlaw_loop K D δ O := by
  refine ⟨_, s.h2, 35, made, rfl, .inl m.lst, 26, fun i δ' O' => i ≤ 26 ∧ Ext O O' ∧ Sl δ' t row word, ⟨by omega, Ext.refl, s⟩, fun i δ' O' hi => ?_⟩
  obtain ⟨hi, he, s'⟩ := hi
  have m' := m.ext he
  refine ⟨hi, ⟨made, .inl m'.lst⟩, ?_⟩
  by_cases hlt : i < 26
  · have hc : i < cls.length := hlt
    have hx := List.getElem?_eq_getElem hc
    generalize cls[i] = x at hx
    obtain ⟨k, hk, ha⟩ := m'.at_ i x hx
    have xc := xcOf X T i x hx
    have e : (wkE 35).at_ i O' = some (.tup [.int i, .cell k]) := by
      show Option.map _ ((wkL 35).at_ i O') = _
      rw [wkL_at (.inl m'.lst), hk]
      rfl
    rw [e]
    have s2 : Sl ((δ'.set 6 (some (.int i))).set 7 (some (.cell k))) t row word := (s'.set (by decide)).set (by decide)
    have h7 : ((δ'.set 6 (some (.int i))).set 7 (some (.cell k)))[7]? = some (some (.cell k)) := (s'.set (i := 6) (by decide)).at_ (by decide)
    have h6 : ((δ'.set 6 (some (.int i))).set 7 (some (.cell k)))[6]? = some (some (.int i)) := by
      rw [List.getElem?_set_ne (by decide)]
      exact s'.at_ (by decide)
    refine ⟨hlt, _, rfl, rfl, _, _, rfl, _, _, rfl, rfl, ?_⟩
    generalize ((δ'.set 6 (some (.int i))).set 7 (some (.cell k))) = δ2 at s2 h6 h7
    refine ⟨_, h7, k, _, _, _, true, rfl, ha, xc, rfl, (X.kitT i x hx).1, true, rfl, iteF ⟨_, h7, k, _, _, _, true, rfl, ha, xc, rfl, (X.kitT i x hx).2.1, true, rfl, iteF ?_⟩⟩
    refine ⟨_, h7, k, _, fun j => i == j, rfl, ha, xc, fun j y hy => X.kit i j x y hx hy, fun O2 m2 e2 g2 => ?_⟩
    refine rd_row (m'.ext e2) s2 h6 fun O3 e3 g3 => ?_
    exact ne_bls (e3.get g2) g3 ⟨false, rfl, iteF0 ⟨hlt, he.trans (e2.trans e3), s2⟩⟩
  · have e : (wkE 35).at_ i O' = none := by
      show Option.map _ ((wkL 35).at_ i O') = _
      rw [wkL_at (.inl m'.lst), List.getElem?_eq_none (by rw [m.len]; omega)]
      rfl
    rw [e]
    exact fin δ' O' he s'
theorem Sl.st {δ : DS} {t : Str} {row word : Int} (s : Sl δ t row word) {i j : Nat} (h : 5 < i) (h2 : 5 < j) {v w : Option W} : Sl ((δ.set i v).set j w) t row word := (s.set h).set h2
theorem two_at {Q : Sto} {a b : Cell} : (Q ++ [a] ++ [b])[Q.length + 1]? = some b := by simp
theorem rd_0 {D : DEnds} {δ : DS} {O : Sto} {t : Str} {row word : Int} (s : Sl δ t row word)
    (fin : ∀ δ' a b, Sl δ' t row word → δ'[8]? = some (some (.cell O.length)) → δ'[9]? = some (some (.cell b)) → (O ++ [Cell.exc (He.ga K "TongueError")] ++ [.exf [("word", .int word), ("row", .int row)]] ++ [.exr (He.ga K "BadRows") a])[b]? = some (.exr (He.ga K "BadRows") a) →
      (O ++ [Cell.exc (He.ga K "TongueError")] ++ [.exf [("word", .int word), ("row", .int row)]] ++ [.exr (He.ga K "BadRows") a])[a]? = some (.exf [("word", .int word), ("row", .int row)]) →
      D.nx δ' (O ++ [Cell.exc (He.ga K "TongueError")] ++ [.exf [("word", .int word), ("row", .int row)]] ++ [.exr (He.ga K "BadRows") a])) : dlaw_0 K D δ O := by
  refine ⟨_, s.h3, one_le, _, s.h5, _, s.h4, _, _, rfl, _, _, rfl, ?_⟩
  refine fin _ _ _ (s.st (by decide) (by decide)) ?_ ((s.set (by decide)).at_ (by decide)) two_at (by simp)
  rw [List.getElem?_set_ne (by decide)]
  exact s.at_ (by decide)
theorem rd_1 (X : Fx K mg) {D : DEnds} {δ : DS} {O : Sto} {k : Nat} (h8 : δ[8]? = some (some (.cell k))) (ha : XcAt O k (He.ga K "TongueError")) (fin : ∀ O', Ext O O' → D.nx δ O') : dlaw_1 K D δ O := by
  have xc : XC K (He.ga K "TongueError") := (X.x0 _ List.mem_cons_self).toXC
  refine ⟨_, h8, k, _, fun _ => false, rfl, ha, xc, fun j y hy => (X.kitT j y hy).2.2, fun O2 m2 e2 g2 => ?_⟩
  refine ⟨_, .inr ⟨m2, rfl, .inl g2⟩, rfl, by decide +kernel, ?_⟩
  refine ⟨false, rfl, iteF0 ⟨_, h8, k, _, _, _, true, rfl, e2.xc ha, xc, rfl, X.kitV, true, rfl, iteF (fin O2 e2)⟩⟩
theorem look_row {row word : Int} : List.lookup ("row" : Str) [(("word" : Str), W.int word), ("row", .int row)] = some (.int row) := by
  rw [lookC, if_neg (by decide), lookC, if_pos rfl]
theorem look_word {row word : Int} : List.lookup ("word" : Str) [(("word" : Str), W.int word), ("row", .int row)] = some (.int word) := by
  rw [lookC, if_pos rfl]
theorem dws_ints {O : Sto} : ∀ l : List Int, DWs O (l.map W.int) (l.map PyData.int)
  | [] => .nil
  | x :: l => .cons (.int _) (dws_ints l)
theorem ne_four {O : Sto} {k j : Nat} {a b c d : Int} {S : WK} (hk : O[k]? = some (.lst [.int a, .int b, .int c, .int d])) (hj : O[j]? = some (.lst [.int a, .int b, .int c, .int d])) (h : S (.bl false) O) : rdNeD (.cell k) (.cell j) O S := by
  have w : DWs O [.int a, .int b, .int c, .int d] [.int a, .int b, .int c, .int d] := dws_ints [a, b, c, d]
  have p : PyData.plain (.list [.int a, .int b, .int c, .int d]) = true := rfl
  refine ⟨_, _, .cell (.inl hk) w, .cell (.inl hj) w, p, p, by show (1 : Nat) ≤ 64; decide, ?_⟩
  rw [PySem.SeqAt.eqv_refl_plain _ p]
  exact h
theorem rd_2 (X : Fx K mg) (T : XC K (He.ga K "BadRows")) (nr : PySem.W.findIn K (.ref (He.ga K "BadRows")) "row" = some none) (nw : PySem.W.findIn K (.ref (He.ga K "BadRows")) "word" = some none) {D : DEnds} {δ : DS} {O : Sto} {made : List W} {row word : Int} {t : Str} {a b : Nat}
    (m : Md K O made row word) (s : Sl δ t row word) (h9 : δ[9]? = some (some (.cell b))) (hb : O[b]? = some (.exr (He.ga K "BadRows") a)) (ha : O[a]? = some (.exf [("word", .int word), ("row", .int row)])) (fin : ∀ O', Ext O O' → D.nx δ O') : dlaw_2 K D δ O := by
  have i3 : atI made 3 = some (.cell 6) := atI_nat (j := 3) m.m3
  refine ⟨_, s.h2, 35, made, 3, _, rfl, rfl, .inl m.lst, i3, 6, 5, _, _, _, rfl, m.r6, m.f5, T, nr, look_row, ?_⟩
  refine ⟨_, s.h2, 35, made, 3, _, rfl, rfl, .inl m.lst, i3, 6, 5, _, _, _, rfl, m.r6, m.f5, T, nw, look_word, ?_⟩
  refine ⟨_, h9, b, a, _, _, _, rfl, hb, ha, T, nr, look_row, _, h9, b, a, _, _, _, rfl, hb, ha, T, nw, look_word, len_le (by show 4 ≤ 100000; decide), ?_⟩
  refine ⟨_, s.h4, _, s.h5, _, s.h4, _, s.h5, len_le (by show 4 ≤ 100000; decide), ?_⟩
  refine ne_four (a := row) (b := word) (c := row) (d := word) (by simp) (by simp) ⟨false, rfl, iteF0 (fin _ (.app (.app .refl _) _))⟩
theorem rd_3 {D : DEnds} {δ : DS} {O : Sto} {row word : Int} {t : Str} (s : Sl δ t row word) (fin : ∀ O', D.nx δ O') : dlaw_3 K D δ O := by
  refine ⟨len_le (by decide), _, _, rfl, .inl (by simp; rfl), 6, fun j O' => j ≤ 6 ∧ Ext (O ++ [.lst [.int 0, .int 1, .int 2, .int 4, .int 5, .int 25]]) O' ∧ O'[(O ++ [Cell.lst [.int 0, .int 1, .int 2, .int 4, .int 5, .int 25]]).length]? = some (.lst (List.replicate j (.bl true))),
    ⟨by omega, .app .refl _, by simp⟩, fun j O' hj => ?_⟩
  obtain ⟨hj, he, hc⟩ := hj
  have hl : O'[O.length]? = some (.lst [.int 0, .int 1, .int 2, .int 4, .int 5, .int 25]) := he.get (by simp)
  refine ⟨hj, ⟨_, .inl hl⟩, ?_⟩
  rw [wkL_at (.inl hl)]
  have s2 : Sl (wipeD δ [6]) t row word := s.set (by decide)
  have go : ∀ n : Int, n ∈ ([0, 1, 2, 4, 5, 25] : List Int) → j < 6 → j < 6 ∧ dCall sp_caught (dCons (dVar 6) (dCons (dVar 3) dNil)) ((wipeD δ [6]).set 6 (some (.int n))) O' fun y O4 => ∃ acc, O4[(O ++ [Cell.lst [.int 0, .int 1, .int 2, .int 4, .int 5, .int 25]]).length]? = some (.lst acc) ∧ acc.length < sizeLine ∧
      (j + 1 ≤ 6 ∧ Ext (O ++ [.lst [.int 0, .int 1, .int 2, .int 4, .int 5, .int 25]]) (O4.set (O ++ [Cell.lst [.int 0, .int 1, .int 2, .int 4, .int 5, .int 25]]).length (.lst (acc ++ [y]))) ∧
        (O4.set (O ++ [Cell.lst [.int 0, .int 1, .int 2, .int 4, .int 5, .int 25]]).length (.lst (acc ++ [y])))[(O ++ [Cell.lst [.int 0, .int 1, .int 2, .int 4, .int 5, .int 25]]).length]? = some (.lst (List.replicate (j + 1) (.bl true)))) := by
    intro n hn hlt
    refine ⟨hlt, _, s2.at_ (by decide), _, (s2.set (by decide)).h3, n, t, rfl, hn, fun O4 e4 => ⟨_, e4.get hc, by rw [List.length_replicate, sizeLine_eq]; omega, by omega, (he.trans e4).set (Nat.le_refl _), ?_⟩⟩
    rw [List.getElem?_set_self (List.getElem?_eq_some_iff.mp (e4.get hc)).1, List.replicate_succ']
  by_cases hlt : j < 6
  · have h6 : j = 0 ∨ j = 1 ∨ j = 2 ∨ j = 3 ∨ j = 4 ∨ j = 5 := by omega
    rcases h6 with rfl | rfl | rfl | rfl | rfl | rfl
    · exact go 0 (by decide) hlt
    · exact go 1 (by decide) hlt
    · exact go 2 (by decide) hlt
    · exact go 4 (by decide) hlt
    · exact go 5 (by decide) hlt
    · exact go 25 (by decide) hlt
  · have e : j = 6 := by omega
    subst e
    refine ⟨_, .inr ⟨_, rfl, .inl hc⟩, rfl, by decide +kernel, ?_⟩
    exact ⟨false, rfl, iteF0 (fin O')⟩
theorem rd_tail (X : Fx K mg) (T : XC K (He.ga K "BadRows")) (nr : PySem.W.findIn K (.ref (He.ga K "BadRows")) "row" = some none) (nw : PySem.W.findIn K (.ref (He.ga K "BadRows")) "word" = some none) {D : DEnds} {δ : DS} {O : Sto} {made : List W} {row word : Int} {t : Str}
    (m : Md K O made row word) (s : Sl δ t row word) (fin : ∀ O', D.rt (.bl true) O') : dlaw_tail K D δ O := by
  refine rd_0 s fun δ' a b s' h8 h9 hb ha => ?_
  have e : Ext O (O ++ [Cell.exc (He.ga K "TongueError")] ++ [.exf [("word", .int word), ("row", .int row)]] ++ [.exr (He.ga K "BadRows") a]) := .app (.app (.app .refl _) _) _
  have hk : XcAt (O ++ [Cell.exc (He.ga K "TongueError")] ++ [.exf [("word", .int word), ("row", .int row)]] ++ [.exr (He.ga K "BadRows") a]) O.length (He.ga K "TongueError") := .inl (by simp)
  refine rd_1 X h8 hk fun O1 e1 => ?_
  refine rd_2 X T nr nw ((m.ext e).ext e1) s' h9 (e1.get hb) (e1.get ha) fun O2 e2 => ?_
  refine rd_3 (K := K) s' fun O3 => ?_
  exact ⟨_, s'.h4, _, s'.h5, _, _, rfl, fun O' _ => fin O'⟩
end K00

set_option Elab.async false
set_option linter.all false
set_option maxRecDepth 100000
set_option maxHeartbeats 1000000
set_option exponentiation.threshold 2000
/-! k00: the law's own reading, from its start. -/
namespace K00
open PySem PySem.Spec PyProof.Rows L2 Dm
variable {K : PySem.W.Frag} {mg : Str → Option Value}
def OM (K : PySem.W.Frag) (rl sl : List W) (row word : Int) : Sto := [.rol rl,
  .lst sl,
  .exc (He.ga K "BadBook"),
  .exc (He.ga K "BadText"),
  .exc (He.ga K "BadSide"),
  .exf [("word", .int word), ("row", .int row)],
  .exr (He.ga K "BadRows") 5,
  .exc (He.ga K "BadNumber"),
  .exc (He.ga K "BadName"),
  .exc (He.ga K "BadForm"),
  .lst [.cell 2, .cell 3, .cell 4, .cell 6, .cell 7, .cell 8, .cell 9],
  .exc (He.ga K "BadWord"),
  .exc (He.ga K "BadReading"),
  .exc (He.ga K "BadPaper"),
  .exc (He.ga K "BadCount"),
  .exc (He.ga K "BadLinks"),
  .exc (He.ga K "NoPair"),
  .exc (He.ga K "BadPlace"),
  .lst [.cell 11, .cell 12, .cell 13, .cell 14, .cell 15, .cell 16, .cell 17],
  .lst [.cell 2, .cell 3, .cell 4, .cell 6, .cell 7, .cell 8, .cell 9, .cell 11, .cell 12, .cell 13, .cell 14, .cell 15, .cell 16, .cell 17],
  .exc (He.ga K "BadOrder"),
  .exc (He.ga K "BadWorld"),
  .exc (He.ga K "BadTerm"),
  .exc (He.ga K "BadKind"),
  .exc (He.ga K "BadNumbers"),
  .exc (He.ga K "BadExamples"),
  .lst [.cell 20, .cell 21, .cell 22, .cell 23, .cell 24, .cell 25],
  .lst [.cell 2, .cell 3, .cell 4, .cell 6, .cell 7, .cell 8, .cell 9, .cell 11, .cell 12, .cell 13, .cell 14, .cell 15, .cell 16, .cell 17, .cell 20, .cell 21, .cell 22, .cell 23, .cell 24, .cell 25],
  .exc (He.ga K "BadRule"),
  .exc (He.ga K "Needed"),
  .exc (He.ga K "NothingToUndo"),
  .exc (He.ga K "Full"),
  .exc (He.ga K "BadCommand"),
  .exc (He.ga K "TooMany"),
  .lst [.cell 28, .cell 29, .cell 30, .cell 31, .cell 32, .cell 33],
  .lst [.cell 2, .cell 3, .cell 4, .cell 6, .cell 7, .cell 8, .cell 9, .cell 11, .cell 12, .cell 13, .cell 14, .cell 15, .cell 16, .cell 17, .cell 20, .cell 21, .cell 22, .cell 23, .cell 24, .cell 25, .cell 28, .cell 29, .cell 30, .cell 31, .cell 32, .cell 33]]
def mades : List W := [.cell 2, .cell 3, .cell 4, .cell 6, .cell 7, .cell 8, .cell 9, .cell 11, .cell 12, .cell 13, .cell 14, .cell 15, .cell 16, .cell 17, .cell 20, .cell 21, .cell 22, .cell 23, .cell 24, .cell 25, .cell 28, .cell 29, .cell 30, .cell 31, .cell 32, .cell 33]
theorem md_at {rl sl : List W} {row word : Int} : ∀ (i : Nat) (x : Str), cls[i]? = some x → ∃ k, mades[i]? = some (.cell k) ∧ XcAt (OM K rl sl row word) k (He.ga K x)
  | 0, _, h => by cases h; exact ⟨2, rfl, .inl rfl⟩
  | 1, _, h => by cases h; exact ⟨3, rfl, .inl rfl⟩
  | 2, _, h => by cases h; exact ⟨4, rfl, .inl rfl⟩
  | 3, _, h => by cases h; exact ⟨6, rfl, .inr ⟨5, _, rfl, rfl⟩⟩
  | 4, _, h => by cases h; exact ⟨7, rfl, .inl rfl⟩
  | 5, _, h => by cases h; exact ⟨8, rfl, .inl rfl⟩
  | 6, _, h => by cases h; exact ⟨9, rfl, .inl rfl⟩
  | 7, _, h => by cases h; exact ⟨11, rfl, .inl rfl⟩
  | 8, _, h => by cases h; exact ⟨12, rfl, .inl rfl⟩
  | 9, _, h => by cases h; exact ⟨13, rfl, .inl rfl⟩
  | 10, _, h => by cases h; exact ⟨14, rfl, .inl rfl⟩
  | 11, _, h => by cases h; exact ⟨15, rfl, .inl rfl⟩
  | 12, _, h => by cases h; exact ⟨16, rfl, .inl rfl⟩
  | 13, _, h => by cases h; exact ⟨17, rfl, .inl rfl⟩
  | 14, _, h => by cases h; exact ⟨20, rfl, .inl rfl⟩
  | 15, _, h => by cases h; exact ⟨21, rfl, .inl rfl⟩
  | 16, _, h => by cases h; exact ⟨22, rfl, .inl rfl⟩
  | 17, _, h => by cases h; exact ⟨23, rfl, .inl rfl⟩
  | 18, _, h => by cases h; exact ⟨24, rfl, .inl rfl⟩
  | 19, _, h => by cases h; exact ⟨25, rfl, .inl rfl⟩
  | 20, _, h => by cases h; exact ⟨28, rfl, .inl rfl⟩
  | 21, _, h => by cases h; exact ⟨29, rfl, .inl rfl⟩
  | 22, _, h => by cases h; exact ⟨30, rfl, .inl rfl⟩
  | 23, _, h => by cases h; exact ⟨31, rfl, .inl rfl⟩
  | 24, _, h => by cases h; exact ⟨32, rfl, .inl rfl⟩
  | 25, _, h => by cases h; exact ⟨33, rfl, .inl rfl⟩
  | i + 26, _, h => by cases h
theorem md {rl sl : List W} {row word : Int} : Md K (OM K rl sl row word) mades row word := ⟨rfl, md_at, rfl, rfl, rfl, rfl⟩
theorem cut1 (xs : List W) : cutW xs none (some 1) = xs.take 1 := by
  unfold cutW
  rw [HT.sIx_none, show (some (1 : Int)) = some ((1 : Nat) : Int) from rfl, HT.sIx_nat, List.drop_zero]
  cases xs with
  | nil => rfl
  | cons x r => rfl
theorem txt_le (r : Int) (h0 : 0 ≤ r) (h1 : r < 1000) : (("t" : Str)).length + ((toString r : String) : Str).length ≤ sizeLine := by
  have h : ∀ n : Fin 1000, ((toString ((n.val : Nat) : Int) : String) : Str).length ≤ 10 := by decide +kernel
  have h2 := h ⟨r.toNat, by omega⟩
  have e : ((r.toNat : Nat) : Int) = r := Int.toNat_of_nonneg h0
  dsimp only at h2
  rw [e] at h2
  rw [sizeLine_eq]
  have h3 : (("t" : Str)).length = 1 := by decide +kernel
  omega
theorem rd_h0 {D : DEnds} {δ : DS} {O : Sto} {ns : List Int} (h0 : δ[0]? = some (some (.cell 0))) (hO : O = [.rol (ns.map W.int)]) (fin : D.nx (δ.set 1 (some (.int (ns.take 1).sum))) [.rol (ns.map W.int), .lst ((ns.take 1).map W.int)]) : dlaw_h0 K D δ O := by
  subst hO
  refine ⟨_, h0, _, rfl, 0, _, rfl, .inr rfl, 1, ns.take 1, rfl, .inl ?_, ?_⟩
  · rw [cut1, List.map_take]
    rfl
  · rw [cut1, ← List.map_take]
    exact fin
theorem rd_h1 {D : DEnds} {δ : DS} {O : Sto} {n : Int} (h1 : δ[1]? = some (some (.int n))) (fin : ∀ t r w, D.nx (((δ.set 3 (some (.str t))).set 4 (some (.int r))).set 5 (some (.int w))) O) : dlaw_h1 K D δ O := by
  have b0 := Int.emod_nonneg n (show (1000 : Int) ≠ 0 by decide)
  have b1 := Int.emod_lt_of_pos n (show (0 : Int) < 1000 by decide)
  have lg : (n % 1000).natAbs.log2 < 1920 := PySem.Flt.log2_lt_of (by decide) (Nat.lt_of_lt_of_le (show (n % 1000).natAbs < 2 ^ 10 by omega) (Nat.pow_le_pow_right (by decide) (by decide)))
  refine ⟨_, h1, .inl ⟨_, rfl, _, _, rfl, rfl, (show (0 : Int) < 1000 by decide), _, rfl, lg, _, _, rfl, rfl, txt_le _ b0 b1, ?_⟩⟩
  refine ⟨_, h1, .inl ⟨_, rfl, _, _, rfl, rfl, (show (0 : Int) < 997 by decide), ?_⟩⟩
  refine ⟨_, h1, _, _, rfl, rfl, ⟨by decide, by decide⟩, .inl ⟨_, rfl, _, _, rfl, rfl, (show (0 : Int) < 89 by decide), len_le (by show 3 ≤ 100000; decide), ?_⟩⟩
  exact ⟨_, rfl, rfl, _, _, rfl, _, _, rfl, _, _, rfl, rfl, fin _ _ _⟩
/-- errors made, one after another -/
def exA0 (K : PySem.W.Frag) : List Str → DA
  | [] => dNil
  | x :: r => dCons (dX0 (He.ga K x) (dCons (dVar 3) dNil)) (exA0 K r)
@[irreducible] def exA (K : PySem.W.Frag) (l : List Str) : DA := exA0 K l
def cellsFrom : Nat → List Str → List W
  | _, [] => []
  | n, _ :: r => .cell n :: cellsFrom (n + 1) r
theorem cells_len : ∀ (n : Nat) (xs : List Str), (cellsFrom n xs).length = xs.length
  | _, [] => rfl
  | n, _ :: r => by
    show (cellsFrom (n + 1) r).length + 1 = r.length + 1
    rw [cells_len]
theorem ex_ok0 {δ : DS} {t : Str} (h3 : δ[3]? = some (some (.str t))) : ∀ (xs : List Str) (O : Sto) (S : List W → Sto → Prop), S (cellsFrom O.length xs) (O ++ xs.map fun x => .exc (He.ga K x)) → exA0 K xs δ O S
  | [], O, S, q => by
    show S [] O
    rw [List.map_nil, List.append_nil] at q
    exact q
  | x :: r, O, S, q => by
    refine ⟨_, h3, one_le, ex_ok0 h3 r _ _ ?_⟩
    rw [List.length_append, List.append_assoc]
    exact q
theorem ex_ok {δ : DS} {t : Str} (h3 : δ[3]? = some (some (.str t))) (xs : List Str) (O : Sto) (S : List W → Sto → Prop) (q : S (cellsFrom O.length xs) (O ++ xs.map fun x => .exc (He.ga K x))) : exA K xs δ O S := by
  unfold exA
  exact ex_ok0 h3 xs O S q
theorem h3_eq : dlaw_h3 K = dSet 2 (dCatL (dVar 2) (dLst (exA K ["BadWord", "BadReading", "BadPaper", "BadCount", "BadLinks", "NoPair", "BadPlace"]))) := by
  unfold exA
  rfl
theorem h4_eq : dlaw_h4 K = dSet 2 (dCatL (dVar 2) (dLst (exA K ["BadOrder", "BadWorld", "BadTerm", "BadKind", "BadNumbers", "BadExamples"]))) := by
  unfold exA
  rfl
theorem h5_eq : dlaw_h5 K = dSet 2 (dCatL (dVar 2) (dLst (exA K ["BadRule", "Needed", "NothingToUndo", "Full", "BadCommand", "TooMany"]))) := by
  unfold exA
  rfl
theorem st_cx {D : DEnds} {δ : DS} {O : Sto} {t : Str} {xs : List Str} {k : Nat} {zs : List W} (h3 : δ[3]? = some (some (.str t))) (h2 : δ[2]? = some (some (.cell k))) (hk : O[k]? = some (.lst zs)) (hx : xs.length ≤ 1000) (hz : zs.length ≤ 1000)
    (h : D.nx (δ.set 2 (some (.cell (O.length + xs.length + 1)))) (O ++ (xs.map fun x => Cell.exc (He.ga K x)) ++ [.lst (cellsFrom O.length xs)] ++ [.lst (zs ++ cellsFrom O.length xs)])) : dSet 2 (dCatL (dVar 2) (dLst (exA K xs))) D δ O := by
  refine ⟨_, h2, ex_ok h3 _ _ _ ?_⟩
  have e : (O ++ xs.map fun x => Cell.exc (He.ga K x)).length = O.length + xs.length := by simp
  refine cat_ok (xs := zs) ?_ (len_le (by rw [cells_len]; omega)) (len_le (by rw [cells_len]; omega)) ?_
  · rw [List.getElem?_append_left (List.getElem?_eq_some_iff.mp hk).1]
    exact hk
  · rw [e]
    exact h
theorem rd_h2 {D : DEnds} {δ : DS} {rl sl : List W} {t : Str} {row word : Int} (h3 : δ[3]? = some (some (.str t))) (h4 : δ[4]? = some (some (.int row))) (h5 : δ[5]? = some (some (.int word)))
    (fin : D.nx (δ.set 2 (some (.cell 10))) ((OM K rl sl row word).take 11)) : dlaw_h2 K D δ [.rol rl, .lst sl] := by
  refine ⟨_, h3, one_le, _, h3, one_le, _, h3, one_le, _, h4, _, h5, _, _, rfl, _, h3, one_le, _, h3, one_le, _, h3, one_le, len_le (by show 7 ≤ 100000; decide), ?_⟩
  exact fin
theorem rd_h3 {D : DEnds} {δ : DS} {rl sl : List W} {t : Str} {row word : Int} (h3 : δ[3]? = some (some (.str t))) (h2 : δ[2]? = some (some (.cell 10))) (fin : D.nx (δ.set 2 (some (.cell 19))) ((OM K rl sl row word).take 20)) : dlaw_h3 K D δ ((OM K rl sl row word).take 11) := by
  rw [h3_eq]
  exact st_cx h3 h2 rfl (by decide) (by decide) fin
theorem rd_h4 {D : DEnds} {δ : DS} {rl sl : List W} {t : Str} {row word : Int} (h3 : δ[3]? = some (some (.str t))) (h2 : δ[2]? = some (some (.cell 19))) (fin : D.nx (δ.set 2 (some (.cell 27))) ((OM K rl sl row word).take 28)) : dlaw_h4 K D δ ((OM K rl sl row word).take 20) := by
  rw [h4_eq]
  exact st_cx h3 h2 rfl (by decide) (by decide) fin
theorem rd_h5 {D : DEnds} {δ : DS} {rl sl : List W} {t : Str} {row word : Int} (h3 : δ[3]? = some (some (.str t))) (h2 : δ[2]? = some (some (.cell 27))) (fin : D.nx (δ.set 2 (some (.cell 35))) (OM K rl sl row word)) : dlaw_h5 K D δ ((OM K rl sl row word).take 28) := by
  rw [h5_eq]
  exact st_cx h3 h2 rfl (by decide) (by decide) fin
theorem rd_law (X : Fx K mg) (T : XC K (He.ga K "BadRows")) (nr : PySem.W.findIn K (.ref (He.ga K "BadRows")) "row" = some none) (nw : PySem.W.findIn K (.ref (He.ga K "BadRows")) "word" = some none) (ws : List W) (O : Sto) (S : WK) (h : sp_law ws O S) :
    dlaw K (outD S) (startD ["_law_script", "_law_number", "_law_made", "_law_text", "_law_row", "_law_word", "_law_at", "_law_e", "_law_base", "_law_other", "_law_k"] ws) O := by
  obtain ⟨ns, rfl, hO, _, fin⟩ := h
  refine rd_h0 (K := K) rfl hO (rd_h1 (K := K) rfl fun t r w => ?_)
  refine rd_h2 rfl rfl rfl (rd_h3 rfl rfl (rd_h4 rfl rfl (rd_h5 rfl rfl ?_)))
  refine rd_loop X T md (t := t) ⟨rfl, rfl, rfl, rfl, rfl⟩ fun δ' O' e s => ?_
  exact rd_tail X T nr nw (md.ext e) s fun O'' => fin O''
end K00

set_option Elab.async false
set_option linter.all false
set_option maxRecDepth 100000
set_option maxHeartbeats 0
/-! k00: the head, the end. -/
namespace K00
open PySem PySem.Spec PyProof.Rows L2 Dm
abbrev sIni : Stmt := (clsBody (topS 5)).getD 0 (.Pass ⟨0, 0, 0, 0⟩)
abbrev FnI (K : PySem.W.Frag) (f : Addr) (fd : FuncData) : Prop := FunD K "__init__" "BadRows.__init__" (defArgs sIni) (defBody sIni) (defScope sIni) [] [] f fd
theorem scIni : FnScope ["self", "row", "word"] ["self", "row", "word"] (defScope sIni) := ⟨rfl, rfl, rfl, by decide +kernel, rfl, by decide +kernel, by decide +kernel⟩
section
variable {P : Program} {w : World} {K : PySem.W.Frag} {mg : Str → Option Value} {base : Heap}
theorem ok_ini {f C : Addr} {fd : FuncData} (F : FnI K f fd) (T : OexC K C) (nr : PySem.W.findIn K (.ref C) "row" = some none) (nw : PySem.W.findIn K (.ref C) "word" = some none) : FnOk P w K mg base CX0 1 f fd ["self", "row", "word"] (spIni C "row" "word") := by
  refine F.ok scIni (fun vs H Q E h => ?_) (fun cdv A outer s H vs Q E hr h => ⟨_, PSs.nox (pss_cons (ps_ost (pv 0) (pv 1)) (pss_one (ps_ost (pv 0) (pv 2)))), ?_⟩)
  · obtain ⟨a, x, y, rfl, _⟩ := h
    rfl
  · obtain ⟨a, x, y, rfl, ha, q⟩ := h
    refine ⟨_, rfl, _, rfl, a, C, rfl, T, nr, .inl ⟨ha, fun d hd nd => ?_⟩⟩
    refine ⟨_, rfl, _, rfl, a, C, rfl, T, nw, .inr ⟨d, [("row", x)], upd_same, ?_, (by show 1 ≤ 900; decide), q d hd nd⟩⟩
    rw [upd_ne nd, upd_same]
end
/-- what is asked of the written part, in one look -/
def xs (K : PySem.W.Frag) : Bool := noLst K && (xc0B K (He.ga K "TongueError") && ((cls.eraseIdx 3).all (fun x => xc0B K (He.ga K x)) && (xciB K (He.ga K "BadRows") (He.ma K (He.ga K "BadRows") "__init__") &&
  (cls.zipIdx.all (fun p => cls.zipIdx.all fun r => decide (PySem.W.kitOne K (.ref (He.ga K p.1)) (.ref (He.ga K r.1)) = some (p.2 == r.2)) && decide (PySem.W.exmOne K (.ref (He.ga K p.1)) (.ref (He.ga K r.1)) = some (p.2 == r.2))) &&
  (cls.all (fun x => decide (PySem.W.kitOne K (.ref (He.ga K x)) (.ref (He.ga K "TongueError")) = some true) && (decide (PySem.W.kitOne K (.ref (He.ga K x)) (.type "ValueError") = some true) && decide (PySem.W.kitOne K (.ref (He.ga K "TongueError")) (.ref (He.ga K x)) = some false))) &&
  (decide (PySem.W.kitOne K (.ref (He.ga K "TongueError")) (.type "ValueError") = some true) && (decide (PySem.W.exmOne K (.ref (He.ga K "BadRows")) (.ref (He.ga K "TongueError")) = some true) &&
  (He.eqO (PySem.W.findIn K (.ref (He.ga K "BadRows")) "row") (some none) && He.eqO (PySem.W.findIn K (.ref (He.ga K "BadRows")) "word") (some none)))))))))
def dI : He.DefD := ⟨("BadRows", some "__init__"), "__init__", "BadRows.__init__", defArgs sIni, defBody sIni, defScope sIni, [], []⟩
def e_law_flags : He.DefD := ⟨("_law_flags", none), "_law_flags", "_law_flags", defArgs s_law_flags, defBody s_law_flags, defScope s_law_flags, [], []⟩
def e_law_is_caught : He.DefD := ⟨("_law_is_caught", none), "_law_is_caught", "_law_is_caught", defArgs s_law_is_caught, defBody s_law_is_caught, defScope s_law_is_caught, [], []⟩
def e_law_is_base_caught : He.DefD := ⟨("_law_is_base_caught", none), "_law_is_base_caught", "_law_is_base_caught", defArgs s_law_is_base_caught, defBody s_law_is_base_caught, defScope s_law_is_base_caught, [], []⟩
def elaw : He.DefD := ⟨("law", none), "law", "law", defArgs slaw, defBody slaw, defScope slaw, [], []⟩
def fn : List He.DefD := [dI, e_law_flags, e_law_is_caught, e_law_is_base_caught, elaw]
def fa : List He.Fa := [.glo "TongueError", .glo "BadBook", .glo "BadText", .glo "BadSide", .glo "BadRows", .glo "BadNumber", .glo "BadName", .glo "BadForm", .glo "BadWord", .glo "BadReading", .glo "BadPaper", .glo "BadCount", .glo "BadLinks", .glo "NoPair", .glo "BadPlace", .glo "BadOrder", .glo "BadWorld", .glo "BadTerm", .glo "BadKind", .glo "BadNumbers", .glo "BadExamples", .glo "BadRule", .glo "Needed", .glo "NothingToUndo", .glo "Full", .glo "BadCommand", .glo "TooMany", .glo "_law_flags", .glo "_law_is_caught", .glo "_law_is_base_caught", .glo "law", .free "sum", .free "enumerate", .free "str", .free "int", .free "isinstance", .free "range", .free "len", .free "ValueError"]
abbrev R : PySem.W.OpenRow := PySem.W.OpenLaw.row PySem.Challenge.rw_pairedtongues_k00_error_classes
abbrev hk : PySem.W.Hook := hookX xs 5 fa fn
def ob (s : PySem.W.SharedT) : Bool × He.AlD := obsXG xs 5 fa fn (HandSHeadRun.getT s)
theorem ob_eq (s : PySem.W.SharedT) : ob s = hk.obs s.abs := obsXG_eq (HandSHeadRun.getT_eq s)
def loose : List Str := ["__name__", "TongueError", "BadBook", "BadText", "BadSide", "BadRows", "BadNumber", "BadName", "BadForm", "BadWord", "BadReading", "BadPaper", "BadCount", "BadLinks", "NoPair", "BadPlace", "BadOrder", "BadWorld", "BadTerm", "BadKind", "BadNumbers", "BadExamples", "BadRule", "Needed", "NothingToUndo", "Full", "BadCommand", "TooMany", "_law_flags", "_law_is_caught", "_law_is_base_caught"]
theorem run (w : World) : HandSHeadRun.RunEq R (PySem.W.view R.prog [32]) hk ob 9000 loose w := by
  intro os
  kernel_rfl
theorem zip_at {α : Type} {l : List α} {i : Nat} {x : α} (h : l[i]? = some x) : (x, i) ∈ l.zipIdx := by
  rw [List.mem_zipIdx_iff_getElem?]
  exact h
theorem fx {K : PySem.W.Frag} {h : Heap} {mg : Str → Option Value} (X : K.In h) (G : h.Ns mainGlobals mg) (c : SaysX xs fa fn K) : Fx K mg ∧ XCI K (He.ga K "BadRows") (He.ma K (He.ga K "BadRows") "__init__") ∧ noLst K = true ∧
    PySem.W.findIn K (.ref (He.ga K "BadRows")) "row" = some none ∧ PySem.W.findIn K (.ref (He.ga K "BadRows")) "word" = some none := by
  have h0 := c.own
  obtain ⟨h1, h0⟩ := He.ba h0
  obtain ⟨h2, h0⟩ := He.ba h0
  obtain ⟨h3, h0⟩ := He.ba h0
  obtain ⟨h4, h0⟩ := He.ba h0
  obtain ⟨h5, h0⟩ := He.ba h0
  obtain ⟨h6, h0⟩ := He.ba h0
  obtain ⟨h7, h0⟩ := He.ba h0
  obtain ⟨h8, h0⟩ := He.ba h0
  obtain ⟨h9, h10⟩ := He.ba h0
  have hg : ∀ i x, fa[i]? = some (He.Fa.glo x) → mg x = some (.ref (He.ga K x)) := fun i x e => He.glo_ok X G (c.d.fact i e)
  have hp : ∀ (i j : Nat) (x y : Str), cls[i]? = some x → cls[j]? = some y → PySem.W.kitOne K (.ref (He.ga K x)) (.ref (He.ga K y)) = some (i == j) ∧ PySem.W.exmOne K (.ref (He.ga K x)) (.ref (He.ga K y)) = some (i == j) := fun i j x y hi hj => by
    have q := List.all_eq_true.mp (List.all_eq_true.mp h5 (x, i) (zip_at hi)) (y, j) (zip_at hj)
    exact ⟨of_decide_eq_true (He.ba q).1, of_decide_eq_true (He.ba q).2⟩
  refine ⟨⟨fun n hn => ?_, fun n hn => ?_, fun i j x y hi hj => (hp i j x y hi hj).1, fun i x hi => ?_, of_decide_eq_true h7, fun i j x y hi hj => (hp i j x y hi hj).2, of_decide_eq_true h8⟩, xciB_ok h4, h1, He.eqO_ok h9, He.eqO_ok h10⟩
  · obtain ⟨i, hi⟩ := List.getElem?_of_mem hn
    refine hg i n ?_
    have e : fa = ((("TongueError" : Str) :: cls).map He.Fa.glo) ++ fa.drop 27 := rfl
    have hl : i < (("TongueError" : Str) :: cls).length := (List.getElem?_eq_some_iff.mp hi).1
    rw [e, List.getElem?_append_left (by rw [List.length_map]; exact hl), List.getElem?_map, hi]
    rfl
  · rcases List.mem_cons.mp hn with rfl | hn
    · exact xc0B_ok h2
    · exact xc0B_ok (List.all_eq_true.mp h3 n hn)
  · have q := List.all_eq_true.mp h6 x (List.mem_of_getElem? hi)
    obtain ⟨q1, q⟩ := He.ba q
    obtain ⟨q2, q3⟩ := He.ba q
    exact ⟨of_decide_eq_true q1, of_decide_eq_true q2, of_decide_eq_true q3⟩
theorem facts {P : Program} {w : World} {K : PySem.W.Frag} {h : Heap} {mg : Str → Option Value} {f : Addr} (X : K.In h) (G : h.Ns mainGlobals mg) (hfa : mg ("law" : Str) = some (.ref f)) (c : SaysX xs fa fn K) :
    noLst K = true ∧ ∃ fd : FuncData, (∀ (s : Shared) (v : Value), BindsTo s fd ⟨[v], []⟩ [("_law_script", v)]) ∧ ∀ base : Heap, K.In base → base.Ns mainGlobals mg → FnG P w K mg base 4 f fd ["_law_script"] sp_law := by
  obtain ⟨fx, xi, nl, nr, nw⟩ := fx X G c
  obtain ⟨fdI, FI⟩ := c.d.def_ 0 (d := dI) rfl
  obtain ⟨fd1, F_1⟩ := c.d.def_ 1 (d := e_law_flags) rfl
  obtain ⟨fd2, F_2⟩ := c.d.def_ 2 (d := e_law_is_caught) rfl
  obtain ⟨fd3, F_3⟩ := c.d.def_ 3 (d := e_law_is_base_caught) rfl
  obtain ⟨fd4, F_4⟩ := c.d.def_ 4 (d := elaw) rfl
  have e := hfa.symm.trans (He.glo_ok X G (c.d.fact 30 (f := .glo "law") rfl))
  cases e
  have b := FunD.bindsA (ps := ["_law_script"]) F_4 fun _ _ _ _ _ _ us hl => match us, hl with | [_], _ => rfl
  refine ⟨nl, fd4, fun s v => b s [v] rfl, fun base _ _ => ?_⟩
  have I : Ini P w K mg base := ⟨_, fdI, xi, ok_ini FI xi.ox nr nw, FunD.bindsN FI fun _ _ _ _ _ _ us hl => match us, hl with | [_, _, _], _ => rfl, ?_, nr, nw⟩
  · have b1 : Binds K fd1 ["_law_e"] [] := FunD.bindsN F_1 fun _ _ _ _ _ _ us hl => match us, hl with | [_], _ => rfl
    have b2 : Binds K fd2 ["_law_number", "_law_text"] [] := FunD.bindsN F_2 fun _ _ _ _ _ _ us hl => match us, hl with | [_, _], _ => rfl
    have b3 : Binds K fd3 ["_law_row", "_law_word"] [] := FunD.bindsN F_3 fun _ _ _ _ _ _ us hl => match us, hl with | [_, _], _ => rfl
    have G1 : FnG P w K mg base 1 _ fd1 ["_law_e"] (sp_flags K) := ok_law_flags F_1 fx I (He.free_ok X G (c.d.fact 35 rfl)) (fun ws O S h => by obtain ⟨k, D, bs, rfl, _⟩ := h; rfl) fun ws O S h => rd_flags fx ws O S h
    have G2 : FnG P w K mg base 1 _ fd2 ["_law_number", "_law_text"] sp_caught := ok_law_is_caught F_2 fx I (fun ws O S h => by obtain ⟨k, D, rfl, _⟩ := h; rfl) fun ws O S h => rd_caught fx ws O S h
    have G3 : FnG P w K mg base 3 _ fd3 ["_law_row", "_law_word"] sp_base := ok_law_is_base_caught F_3 fx I (He.free_ok X G (c.d.fact 35 rfl)) (fun ws O S h => by obtain ⟨k, D, rfl, _⟩ := h; rfl) fun ws O S h => rd_base fx xi.toXC ws O S h
    exact oklaw F_4 fx I (He.free_ok X G (c.d.fact 31 rfl)) (He.free_ok X G (c.d.fact 32 rfl)) (He.free_ok X G (c.d.fact 33 rfl)) (He.free_ok X G (c.d.fact 34 rfl)) (He.free_ok X G (c.d.fact 35 rfl)) (He.free_ok X G (c.d.fact 36 rfl)) (He.free_ok X G (c.d.fact 37 rfl)) (He.free_ok X G (c.d.fact 38 rfl)) G3 (He.glo_ok X G (c.d.fact 29 rfl)) F_3.kp b3 G1 (He.glo_ok X G (c.d.fact 27 rfl)) F_1.kp b1 G2 (He.glo_ok X G (c.d.fact 28 rfl)) F_2.kp b2 (fun ws O S h => by obtain ⟨ns, rfl, _⟩ := h; rfl) fun ws O S h => rd_law fx xi.toXC nr nw ws O S h
  · refine kbN FI (fun {vs us zs ws} r rz => ?_) fun _ _ _ _ _ _ us ws hl => ?_
    · cases r with
      | nil => exact .nil
      | cons r1 r =>
        cases r with
        | cons _ _ => exact .nil
        | nil =>
          refine .cons r1 ?_
          cases rz with
          | nil => exact .nil
          | cons z1 rz =>
            cases rz with
            | nil => exact .nil
            | cons z2 rz =>
              cases rz with
              | nil => exact .cons z2 (.cons z1 .nil)
              | cons _ _ => exact .nil
    · match us, ws, hl with
      | [_], [_, _], _ => rfl
end K00
open PySem PySem.W PySem.Calls PyProof.Rows
set_option maxRecDepth 100000 in
set_option maxHeartbeats 0 in
theorem PySem.Challenge.cw_pairedtongues_k00_error_classes_holds : PySem.Challenge.rw_pairedtongues_k00_error_classes.Holds := by
  w_on; o_law
  refine HandSHeadRun.head_any (r := OpenLaw.row PySem.Challenge.rw_pairedtongues_k00_error_classes) (q := view (OpenLaw.row PySem.Challenge.rw_pairedtongues_k00_error_classes).prog [32]) (H := K00.hk) (ob := K00.ob) (M := 9000) (loose := K00.loose) (d := HandSHeadRun.topDef (OpenLaw.row PySem.Challenge.rw_pairedtongues_k00_error_classes).prog 32) (kwd := []) K00.ob_eq
    (by kernel_rfl) (fun s => by kernel_rfl) K00.run (by kernel_rfl) (by kernel_rfl) (by kernel_rfl) (by rfl) (by first | assumption | decide +kernel) (by decide +kernel) ⟨rfl, rfl, rfl, rfl, rfl, by decide +kernel⟩ ?hw ?hc
  case hw => w_witness2
  case hc =>
    refine Dm.walk_ofG (l := PySem.Challenge.rw_pairedtongues_k00_error_classes) (n := 63) (k := 4) (x := "_law_script") rfl (by decide) (by kernel_rfl) ⟨rfl, by decide, by decide⟩ ?F
    intro w mg fa h Y G hmg0
    obtain ⟨K, KX, c⟩ := Y
    have hmg : mg ("law" : PySem.Str) = some (.ref fa) := by
      have e : (HandSHeadRun.topDef (OpenLaw.row PySem.Challenge.rw_pairedtongues_k00_error_classes).prog 32).name = ("law" : PySem.Str) := by kernel_rfl
      rw [← e]
      exact hmg0
    obtain ⟨nl, fd, hb, hF⟩ := K00.facts (P := (PySem.Challenge.rw_pairedtongues_k00_error_classes).prog) (w := w) KX G hmg c
    exact ⟨K, fd, K00.sp_law, KX, nl, hb, fun ns hl hz => ⟨ns, rfl, rfl, hz, fun _ => rfl⟩, hF⟩

